import PyProof.Rows.All
import Wide.All
import OpenK.AllK
import Wide.FinOn
import HandS.ForMost
import HandS.Wide
import HandS.IsInst
import HandS.Zip
import HandS.Walk
import HandS.NoneIn
import HandS.HotCalls
import HandS.ExcIs
import HandS.Star
import HandS.More
import HandS.ListItems
import KE.KDictList
import HandS.FStr
import HandS.Small
import HandS.Style
import HandS.TupAny
import HandS.SortInts
import HandS.SortRule
import KE.KSortTupAny
import KE.KEqDict
import HandS.SetFor
import KE.GoesMore
import HandS.Conv
import HandS.DictComp
import HandS.Deep
import HandS.SetTxt0
import HandS.Strs
import PyProof.TupleOfSeq
import HandS.RaiseMore
import HandS.Text
import KE.KStateDown
import Lean
import HandS.Defaults
import HandS.Head0
import HandS.Head1
import HandS.Head2
import HandS.HeadEnd
import HandS.HeadHook1
import HandS.HeadHook2
import HandS.HeadHook3
import HandS.HeadHook4
import PySem.Challenge.RW_dunnage_k45_pages_written
set_option Elab.async false
set_option linter.all false
set_option maxRecDepth 100000
set_option maxHeartbeats 8000000
section
set_option maxHeartbeats 0
noncomputable section
namespace HX
open PySem PySem.W PySem.Calls PyProof.Rows
def seg (st : SharedT → Thread → Option (SharedT × Thread)) (n0 : Nat) (ann : Option Value) : Nat → SharedT → Thread → Option (SharedT × Code × Pos)
  | 0, _, _ => none
  | m + 1, s, t => match endAt 1 t with
    | some .next => some (s, t.code, t.pos)
    | some _ => none
    | none => match stepOk n0 ann t with
      | false => none
      | true => match st s t with
        | some (u, v) => HandSHeadRun.frS u fun u => seg st n0 ann m u v
        | none => none
theorem Q4 {p : Program} {w : World} {n0 : Nat} {ann : Option Value} : ∀ (m : Nat) {s u : SharedT} {t : Thread} {c : Code} {q : Pos},
    seg (stepT (denote treeTable) p w) n0 ann m s t = some (u, c, q) → segRun treeTable p w n0 ann 1 m s.abs t = some (.next, u.abs, c, q) := by
  intro m
  induction m with
  | zero => intro s u t c q h; cases h
  | succ m ih =>
    intro s u t c q h
    unfold seg at h
    unfold segRun
    cases he : endAt 1 t with
    | some f => cases f <;> (rw [he] at h; cases h) <;> rfl
    | none =>
      rw [he] at h
      dsimp only at h ⊢
      cases hk : stepOk n0 ann t with
      | false => rw [hk] at h; cases h
      | true =>
        rw [hk] at h
        dsimp only at h ⊢
        cases hs : stepT (denote treeTable) p w s t with
        | none => rw [hs] at h; cases h
        | some r =>
          obtain ⟨a, b⟩ := r
          rw [hs] at h
          dsimp only at h
          rw [HandSHeadRun.frS_eq] at h
          rw [stepT_spec hs]
          exact ih h
theorem part {p : Program} {w : World} {n0 m N : Nat} {ann : Option Value} {env : Env} {q pos pos' : Pos} {l rest : List Stmt} {c : Code} {s u : SharedT} {r : Shared}
    (h : seg (HandSHeadRun.stepQ (HandSHeadRun.denQ HandSHeadRun.tabQ) p w) n0 ann m s (piecesOf l env c pos [topFrame q]) = some (u, c, pos'))
    (k : topRun treeTable p w n0 ann N u.abs (restOf rest env c pos' [topFrame q]) = some r) :
    topRun treeTable p w n0 ann (m + N) s.abs (restOf (l ++ rest) env c pos [topFrame q]) = some r := by
  rw [← HandSHeadRun.stepQ_eq, ← HandSHeadRun.denQ_eq, ← HandSHeadRun.tabQ_eq] at h
  exact piece_app (Q4 m h) k
theorem NC {fa : List He.Fa} {fn : List He.DefD} {ts : List He.Tab} {ex : Frag → Bool} {w : World} {h : Heap} {K : Frag}
    (a : (fa.all fun f => f.ok K) = true) (b : (fn.all fun d => d.ok K) = true) (c : (fn.map fun d => He.fnW K d.at_) = fn.map He.DefD.val)
    (d : (ts.map fun t => He.dicW K (t.1 K)) = ts.map fun t => some (He.keysIn w.params t.2)) (e : ex K = true) : He.SaysX fa fn ts [] ex w h K where
  t := by
    unfold He.SaysT He.obsT He.valT He.obsD He.valD
    rw [a, b, c, d]
    rfl
  more := e
  hd := fun _ z => nomatch z
  out := fun _ z => nomatch z
  empty := fun _ z => nomatch z
theorem in_of {h : Heap} : ∀ {K : Frag}, ((K.map fun x => x.1).map h.get?) = (K.map fun x => some x.2) → K.In h
  | [], _ => fun _ _ z => nomatch z
  | (b, u) :: r, e => by
    obtain ⟨e1, e2⟩ := List.cons.inj e
    have ih := in_of e2
    intro a o z
    have z2 : (match a == b with | true => some u | false => List.lookup a r) = some o := z
    cases q : (a == b) with
    | true =>
      rw [q] at z2
      rw [← Option.some.inj z2, eq_of_beq q]
      exact e1
    | false =>
      rw [q] at z2
      exact ih a o z2
def hook (fa : List He.Fa) (fn : List He.DefD) (ts : List He.Tab) (ex : Frag → Bool) (K : Params → Frag) (ks : List Addr) (hk : ∀ P, (K P).map (fun x => x.1) = ks) (S : ∀ w h, He.SaysX fa fn ts [] ex w h (K w.params)) : Hook where
  α := List (Option Obj)
  obs := fun s => ks.map s.heap.get?
  val := fun w => (K w.params).map fun x => some x.2
  says := fun w h => ∃ K : Frag, K.In h ∧ He.SaysX fa fn ts [] ex w h K
  of := fun w s e => ⟨K w.params, in_of (by rw [hk]; exact e), S w _⟩
  keeps := fun _ _ _ ⟨K, hK, c⟩ k => ⟨K, Frag.In.keeps hK k, ⟨c.t, c.more, c.hd, c.out, fun _ z => nomatch z⟩⟩
theorem get_eq {ks : List Addr} {s : SharedT} {v : List (Option Obj)} (e : ks.map (HandSHeadRun.getT s) = v) : ks.map s.abs.heap.get? = v := by
  rw [← e]
  exact List.map_congr_left fun a _ => (HandSHeadRun.getT_eq s a).symm
theorem jB {α : Type} {f : α → Bool} {a b : List α} (h : a.all f = true) (k : b.all f = true) : (a ++ b).all f = true := by rw [List.all_append, h, k]; rfl
theorem GY {α β : Type} {f g : α → β} {a b : List α} (h : a.map f = a.map g) (k : b.map f = b.map g) : (a ++ b).map f = (a ++ b).map g := by rw [List.map_append, List.map_append, h, k]
end HX
end
noncomputable section
namespace HX
open PySem PySem.W PySem.Calls PyProof.Rows
theorem NV {r : OpenRow} {q : Program} {H : Hook} {N : Nat} {loose : List PySem.Str} {d : DefRec}
    (left : LeftO r.prog q loose (fun s => xlAt q [] s && recOk r.toRowW.records s) H.obs H.val N true)
    (hd : defOf q r.name = some (d, [])) (hp : r.prog.theDef r.name = some (d.params, d.body, d.scope)) (hk : kwWritten? d.params.kwonlyargs d.params.kw_defaults = some [])
    (h1 : (!r.writes || r.records.isEmpty) = true) (h2 : r.wellSaid = true) (h3 : (chainsOk q && opensWell r.prog && (frees r.toRowW && r.within.isEmpty)) = true) (h4 : r.prog.bare) (h5 : r.toRowW.promised)
    (goes : WalkO q loose (XL q []) H.says r.toRowW d [] fun f vs => PySem.call f vs) : r.Holds :=
  holds_open (XP := XL q []) (YP := H.says) left H.of H.keeps (fun s z => xl_of s (He.ba z).1) XL.keeps hd hp hk (fun s z => recFacts_of (He.ba z).2) h1 h2 h3 h4 h5 goes
end HX
end
namespace HD
open PySem PySem.Spec PyProof.Rows L2
def ak (i : Nat) : Stmt := PySem.Challenge.pw_dunnage_k45_pages_written.main.body.getD i (.Pass ⟨0, 0, 0, 0⟩)
def gd (x : Str) (st : Stmt) : He.DefD := ⟨(x, none), x, x, defArgs st, defBody st, defScope st, [], []⟩
def md (c m q : Str) (st : Stmt) : He.DefD := ⟨(c, some m), m, q, defArgs st, defBody st, defScope st, [], []⟩
def UQ : List He.DefD := [gd "check_form" (ak 26), gd "is_name" (ak 27), gd "is_number" (ak 28), gd "is_place" (ak 29), gd "is_course" (ak 30), gd "is_weight" (ak 31), gd "check_new_name" (ak 39), gd "check_course" (ak 40), gd "check_places" (ak 41), gd "check_weight" (ak 42), gd "check_count" (ak 43), gd "check_room" (ak 44), gd "check_on_board" (ak 45), gd "board_row" (ak 46), gd "board_or_trestle_row" (ak 47), gd "sack_row" (ak 48), gd "cord_row" (ak 49), gd "check_no_cord" (ak 50), gd "check_no_sack" (ak 51), gd "set_trestle" (ak 52), gd "lay_board" (ak 53), gd "take_away" (ak 54), gd "shift_along" (ak 55), gd "shift_sacks" (ak 56), gd "set_sack" (ak 57), gd "move_sack" (ak 58), gd "lift_sack" (ak 59), gd "tie_cord" (ak 60), gd "cut_cord" (ak 61), gd "check_day" (ak 67)]
def U3 : List He.DefD := [gd "check_numbers" (ak 68), gd "check_names" (ak 69), gd "check_entry" (ak 70), gd "words_of" (ak 74), gd "written_row" (ak 76), gd "written" (ak 77), gd "_law_feed" (ak 79), gd "_law_same" (ak 80), gd "_law_names" (ak 81), gd "_law_text_of" (ak 82), gd "_law_page" (ak 83), gd "_law_free_row" (ak 84), gd "_law_free_rows" (ak 85), gd "law" (ak 86), md "Yard" "__init__" "Yard.__init__" (inClass (ak 63) 0), md "Yard" "do" "Yard.do" (inClass (ak 63) 1), md "Yard" "boards" "Yard.boards" (inClass (ak 63) 2), md "Yard" "trestles" "Yard.trestles" (inClass (ak 63) 3), md "Yard" "sacks" "Yard.sacks" (inClass (ak 63) 4), md "Yard" "cords" "Yard.cords" (inClass (ak 63) 5), md "Yard" "twin" "Yard.twin" (inClass (ak 63) 6), md "Diary" "__init__" "Diary.__init__" (inClass (ak 71) 0), md "Diary" "enter" "Diary.enter" (inClass (ak 71) 1), md "Diary" "strike" "Diary.strike" (inClass (ak 71) 2), md "Diary" "correct" "Diary.correct" (inClass (ak 71) 3), md "Diary" "back" "Diary.back" (inClass (ak 71) 4), md "Diary" "again" "Diary.again" (inClass (ak 71) 5), md "Diary" "rows" "Diary.rows" (inClass (ak 71) 6), md "Diary" "coming" "Diary.coming" (inClass (ak 71) 7), md "Diary" "yard" "Diary.yard" (inClass (ak 71) 8)]
def US : List He.DefD := [md "Diary" "word" "Diary.word" (inClass (ak 71) 9), md "Diary" "twin" "Diary.twin" (inClass (ak 71) 10), md "Diary" "entry" "Diary.entry" (inClass (ak 71) 11), md "Diary" "put" "Diary.put" (inClass (ak 71) 12), md "Diary" "make" "Diary.make" (inClass (ak 71) 13), md "Diary" "change" "Diary.change" (inClass (ak 71) 14), md "Diary" "followed" "Diary.followed" (inClass (ak 71) 15)]
def fn : List He.DefD := UQ ++ U3 ++ US
def VW : List He.Fa := [.glo "_wall", .glo "check_form", .glo "is_name", .glo "is_number", .glo "is_place", .glo "is_course", .glo "is_weight", .glo "check_new_name", .glo "check_course", .glo "check_places", .glo "check_weight", .glo "check_count", .glo "check_room", .glo "check_on_board", .glo "board_row", .glo "board_or_trestle_row", .glo "sack_row", .glo "cord_row", .glo "check_no_cord", .glo "check_no_sack", .glo "set_trestle", .glo "lay_board", .glo "take_away", .glo "shift_along", .glo "shift_sacks", .glo "set_sack", .glo "move_sack", .glo "lift_sack", .glo "tie_cord", .glo "cut_cord"]
def VA : List He.Fa := [.glo "check_day", .glo "check_numbers", .glo "check_names", .glo "check_entry", .glo "words_of", .glo "written_row", .glo "written", .glo "_law_feed", .glo "_law_same", .glo "_law_names", .glo "_law_text_of", .glo "_law_page", .glo "_law_free_row", .glo "_law_free_rows", .glo "law", .glo "YardError", .glo "BadName", .glo "Taken", .glo "BadCourse", .glo "BadPlace", .glo "BadWeight", .glo "Full", .glo "Crowded", .glo "NoThing", .glo "InUse", .glo "NoSack", .glo "NoCord", .glo "BadCord", .glo "BadDeed", .glo "BadDay"]
def VG : List He.Fa := [.glo "NoEntry", .glo "NothingThere", .glo "Yard", .glo "Diary", .glo "DEED_THINGS", .glo "ACTIONS", .glo "BEAM_ROW", .free "ValueError", .free "all", .free "bool", .free "dict", .free "int", .free "isinstance", .free "len", .free "list", .free "max", .free "min", .free "range", .free "sorted", .free "str", .free "tuple", .free "zip", .int "LONGEST_NAME" 8, .int "FARTHEST_PLACE" 1000000, .int "HIGHEST_COURSE" 9, .int "GREATEST_WEIGHT" 1000000000, .int "MOST_BOARDS" 6, .int "MOST_TRESTLES" 6, .int "MOST_SACKS" 8, .int "MOST_CORDS" 4]
def V1 : List He.Fa := [.int "LAST_DAY" 9999, .int "GREATEST_NUMBER" 9999999999, .str "LETTERS" "abcdefghijklmnopqrstuvwxyz", .str "BEAM" "", .str "BEAM_WORD" "-", .exc "YardError", .exc "BadName", .exc "Taken", .exc "BadCourse", .exc "BadPlace", .exc "BadWeight", .exc "Full", .exc "Crowded", .exc "NoThing", .exc "InUse", .exc "NoSack", .exc "NoCord", .exc "BadCord", .exc "BadDeed", .exc "BadDay", .exc "NoEntry", .exc "NothingThere", .exm "YardError" "YardError" true, .exm "BadName" "YardError" true, .exm "Taken" "YardError" true, .exm "BadCourse" "YardError" true, .exm "BadPlace" "YardError" true, .exm "BadWeight" "YardError" true, .exm "Full" "YardError" true, .exm "Crowded" "YardError" true]
def VO : List He.Fa := [.exm "NoThing" "YardError" true, .exm "InUse" "YardError" true, .exm "NoSack" "YardError" true, .exm "NoCord" "YardError" true, .exm "BadCord" "YardError" true, .exm "BadDeed" "YardError" true, .exm "BadDay" "YardError" true, .exm "NoEntry" "YardError" true, .exm "NothingThere" "YardError" true, .cls "Yard", .mkr "Yard", .noat "Yard" "board_rows", .noat "Yard" "trestle_rows", .noat "Yard" "sack_rows", .noat "Yard" "cord_rows", .meth "Yard" "do", .meth "Yard" "boards", .meth "Yard" "trestles", .meth "Yard" "sacks", .meth "Yard" "cords", .meth "Yard" "twin", .cls "Diary", .mkr "Diary", .noat "Diary" "entries", .noat "Diary" "following", .noat "Diary" "changes", .noat "Diary" "changes_taken_back", .meth "Diary" "enter", .meth "Diary" "strike", .meth "Diary" "correct"]
def VE : List He.Fa := [.meth "Diary" "back", .meth "Diary" "again", .meth "Diary" "rows", .meth "Diary" "coming", .meth "Diary" "yard", .meth "Diary" "word", .meth "Diary" "twin", .meth "Diary" "entry", .meth "Diary" "put", .meth "Diary" "make", .meth "Diary" "change", .meth "Diary" "followed"]
def fa : List He.Fa := VW ++ VA ++ VG ++ V1 ++ VO ++ VE
def ts : List He.Tab := [(fun K => He.ga K "DEED_THINGS", ["trestle", "board", "away", "along", "sack", "move", "lift", "cord", "cut"]), (fun K => He.ga K "ACTIONS", ["trestle", "board", "away", "along", "sack", "move", "lift", "cord", "cut"])]
def L8 (K : PySem.W.Frag) (t : Addr) (l : List He.Dv) : Bool := match K.lookup t with
  | some ⟨.type c, _, .seq xs _, _⟩ => (decide (c = "tuple") && decide (xs.size ≤ sizeLine)) && He.relAll (l.map (He.Dv.v K)) xs.toList
  | _ => false
def S8 (K : PySem.W.Frag) (a : Addr) (l : List (Str × List He.Dv)) : Bool := l.all fun p => match PySem.W.nsIn K a p.1 with
  | some (some (.ref t)) => L8 K t p.2
  | _ => false
theorem C3 {K : PySem.W.Frag} {t : Addr} {l : List He.Dv} (h : L8 K t l = true) (H : Hp) : SqT K H t (l.map (He.Dv.v K)) := by
  unfold L8 at h
  cases q : K.lookup t with
  | none => rw [q] at h; cases h
  | some o =>
    obtain ⟨oc, od, dt, osl⟩ := o
    rw [q] at h
    cases oc with
    | type c =>
      cases dt with
      | seq xs n =>
        obtain ⟨h1, h2⟩ := He.ba (show ((decide (c = "tuple") && decide (xs.size ≤ sizeLine)) && He.relAll (l.map (He.Dv.v K)) xs.toList) = true from h)
        obtain ⟨h3, h4⟩ := He.ba h1
        exact .inr ⟨_, xs, n, q, congrArg Value.type (of_decide_eq_true h3), rfl, of_decide_eq_true h4, He.relAll_ok h2⟩
      | _ => cases h
    | _ => cases dt <;> cases h
theorem fQ {K : PySem.W.Frag} {a : Addr} {l : List (Str × List He.Dv)} (h : S8 K a l = true) {p : Str × List He.Dv} (hp : p ∈ l) : ∃ (u : Value) (t : Addr) (xs : List V), PySem.W.nsIn K a p.1 = some (some u) ∧ RelV (.ref t) u ∧ xs.length = p.2.length ∧ ∀ H : Hp, SqT K H t xs := by
  have h2 := List.all_eq_true.mp h p hp
  cases e : PySem.W.nsIn K a p.1 with
  | none => rw [e] at h2; cases h2
  | some r =>
    rw [e] at h2
    cases r with
    | none => cases h2
    | some u =>
      cases u with
      | ref t => exact ⟨_, t, p.2.map (He.Dv.v K), rfl, He.relB_ok (v := .ref t) (u := .ref t) (decide_eq_true rfl), List.length_map .., fun H => C3 h2 H⟩
      | _ => cases h2
theorem gw {K : PySem.W.Frag} {a : Addr} {l : List (Str × List He.Dv)} (h : S8 K a l = true) {p : Str × List He.Dv} (hp : p ∈ l) : ∃ (u : Value) (t : Addr), PySem.W.nsIn K a p.1 = some (some u) ∧ RelV (.ref t) u ∧ ∀ H : Hp, SqT K H t (p.2.map (He.Dv.v K)) := by
  have h2 := List.all_eq_true.mp h p hp
  cases e : PySem.W.nsIn K a p.1 with
  | none => rw [e] at h2; cases h2
  | some r =>
    rw [e] at h2
    cases r with
    | none => cases h2
    | some u =>
      cases u with
      | ref t => exact ⟨_, t, rfl, He.relB_ok (v := .ref t) (u := .ref t) (decide_eq_true rfl), fun H => C3 h2 H⟩
      | _ => cases h2
def Wc (K : PySem.W.Frag) (c d : Str) (b : Bool) : Bool := decide (PySem.W.kitOne K (.ref (He.ga K c)) (.ref (He.ga K d)) = some b)
def Wr (K : PySem.W.Frag) (c : Str) : Bool := decide (PySem.W.kitOne K (.ref (He.ga K c)) (.type "ValueError") = some true)
def Vi (K : PySem.W.Frag) (x : Str) : Bool := He.eqO (PySem.W.findIn K (.ref (He.ga K x)) "__getattribute__") (some (some (.builtin "BaseException.__getattribute__"))) && (He.eqO (PySem.W.findIn K (.ref (He.ga K x)) "__getattr__") (some none) && (PySem.W.hasDictIn K (He.ga K x) && (He.eqO (PySem.W.findIn K (.ref (He.ga K x)) "__class__") (some (some (.builtin "object.__class__"))) && (He.eqO (PySem.W.specialIn K (.builtin "object.__class__") "__get__") (some (some (.builtin "getset_descriptor.__get__"))) && (decide (PySem.W.takesIn K (.builtin "object.__class__") = some true) && decide (PySem.W.mroIn K (He.ga K x) (.type "object") = some true))))))
def Ub : List Str := ["BadName", "Taken", "BadCourse", "BadPlace", "BadWeight", "Full", "Crowded", "NoThing", "InUse", "NoSack", "NoCord", "BadCord", "BadDeed", "BadDay", "NoEntry", "NothingThere"]
def ex (K : PySem.W.Frag) : Bool := (S8 K (He.ga K "DEED_THINGS") [("trestle", [.str "name", .str "number", .str "number", .str "number"]), ("board", [.str "name", .str "number", .str "number", .str "number", .str "number"]), ("away", [.str "name"]), ("along", [.str "name", .str "number"]), ("sack", [.str "name", .str "name", .str "number", .str "number"]), ("move", [.str "name", .str "name", .str "number"]), ("lift", [.str "name"]), ("cord", [.str "name", .str "upper", .str "name", .str "number"]), ("cut", [.str "name"])]) && (He.valsB K (He.ga K "ACTIONS") [("trestle", .glo "set_trestle"), ("board", .glo "lay_board"), ("away", .glo "take_away"), ("along", .glo "shift_along"), ("sack", .glo "set_sack"), ("move", .glo "move_sack"), ("lift", .glo "lift_sack"), ("cord", .glo "tie_cord"), ("cut", .glo "cut_cord")]) && (Ub.all (fun c => Wr K c && (Vi K c && Ub.all fun d => Wc K c d (decide (c = d))))) && (He.tupB K "BEAM_ROW" [.str "", .int 10, .int (-1000000), .int 1000000])
abbrev R : PySem.W.OpenRow := PySem.W.OpenLaw.row PySem.Challenge.rw_dunnage_k45_pages_written
def SG : List PySem.Str := ["_wall", "YardError", "BadName", "Taken", "BadCourse", "BadPlace", "BadWeight", "Full", "Crowded", "NoThing", "InUse", "NoSack", "NoCord", "BadCord", "BadDeed", "BadDay", "NoEntry", "NothingThere", "LETTERS", "LONGEST_NAME", "FARTHEST_PLACE", "HIGHEST_COURSE", "GREATEST_WEIGHT", "DEED_THINGS", "check_form", "is_name", "is_number", "is_place", "is_course", "is_weight"]
def Q5 : List PySem.Str := ["MOST_BOARDS", "MOST_TRESTLES", "MOST_SACKS", "MOST_CORDS", "BEAM", "BEAM_ROW", "check_new_name", "check_course", "check_places", "check_weight", "check_count", "check_room", "check_on_board", "board_row", "board_or_trestle_row", "sack_row", "cord_row", "check_no_cord", "check_no_sack", "set_trestle", "lay_board", "take_away", "shift_along", "shift_sacks", "set_sack", "move_sack", "lift_sack", "tie_cord", "cut_cord", "ACTIONS"]
def QL : List PySem.Str := ["Yard", "LAST_DAY", "GREATEST_NUMBER", "check_day", "check_numbers", "check_names", "check_entry", "Diary", "BEAM_WORD", "words_of", "written_row", "written", "_law_feed", "_law_same", "_law_names", "_law_text_of", "_law_page", "_law_free_row", "_law_free_rows"]
def loose : List PySem.Str := SG ++ Q5 ++ QL
section
open PySem.W PySem.Calls
noncomputable section
abbrev N : Value := .none
abbrev r (a : Nat) : Value := .ref a
abbrev q (x : String) : Str := Str.ofString x
abbrev s (x : String) (t : Nat) : Value := .str (q x) t
abbrev i (k : Int) (t : Nat) : Value := .int k t
abbrev T (x : String) : Value := .type x
abbrev B (x : String) : Value := .builtin x
abbrev z : PySem.W.BT := .nil
abbrev n (o : Obj) (a b : PySem.W.BT) : PySem.W.BT := .node o a b
abbrev e (P : Params) (x : String) (t : Nat) (v : Value) : DictEntry := ⟨PyData.keyHash P (q x), s x t, v⟩
abbrev F (nm qn : String) (st : Stmt) (g : Nat) (cl : List (Str × Addr)) (df kd dc pm : Value) (an : Option Addr) (cd ct : Value) (b : Nat) : FuncData := ⟨q nm, q qn, defArgs st, .stmts (defBody st), defScope st, g, cl, df, kd, dc, pm, an, cd, ct, b⟩
abbrev Ob := Params → Obj
abbrev tE : Ob := fun _ => ⟨T "tuple", none, .seq [].toArray 0, [].toArray⟩
abbrev nE : Ob := fun _ => ⟨N, none, .fields [].toArray, [].toArray⟩
abbrev cO (x y : String) (a b c : Nat) (d e f g h : Int) (k : Nat) (l : Int) (m o : Nat) (v w : Int) (u y2 u2 : Nat) : Ob := fun _ => ⟨T "code", none, .fields [s x a, s y b, s "/claim/cut.py" c, i d 0, i e 0, i f 0, i g 0, i h 0, r k, .bool false, i l m, r o, N, N, N, N, i v u, i w y2, s "/claim/cut.py" u2].toArray, [].toArray⟩
abbrev fO (x y : String) (st : Stmt) (g : Nat) (d : String) (k a b : Nat) : Ob := fun _ => ⟨T "function", none, .func (F x y st g [] N N N (s d k) none (r a) N b), [].toArray⟩
abbrev gO (x y : String) (st : Stmt) : Ob := fun _ => ⟨N, none, .func (F x y st 0 [] N N N N none N N 0), [].toArray⟩
abbrev y (o : Obj) : PySem.W.BT := .node o .nil .nil
def wZ : Ob := tE
def TF : Ob := nE
def vZ : Ob := cO "<module>" "<module>" 182 183 184 1 0 0 0 0 11 181 0 12 185 1 0 0 186
def wL (P : Params) : Obj := ⟨(T "frame"), none, .plain, [(some (r 13)), (some (r 3)), (some (r 3)), none, (some (s "__main__" 164)), none, (some (r 0))].toArray⟩
def Uc (P : Params) : PySem.W.BT := (n (PySem.W.boot_o_0 P) (n (PySem.W.boot_o_1 P) (n (PySem.W.boot_o_3 P) (y (PySem.W.boot_o_7 P)) (y (wZ P))) (n (PySem.W.boot_o_5 P) (y (PySem.W.boot_o_9 P)) (y (vZ P)))) (n (PySem.W.boot_o_2 P) (n (PySem.W.boot_o_4 P) (y (PySem.W.boot_o_8 P)) (y (TF P))) (n (PySem.W.boot_o_6 P) (y (PySem.W.boot_o_10 P)) (y (wL P)))))
def Ve (P : Params) : Obj := ⟨(T "dict"), none, (.dict [e P "__name__" 165 (s "dunnage.deeds" 470), e P "__doc__" 166 N, e P "__package__" 167 N, e P "__loader__" 168 (B "__main__.__loader__#opaque"), e P "__spec__" 169 N, e P "__annotations__" 170 (r 6), e P "__builtins__" 171 (r 4), e P "__file__" 173 (s "/claim/cut.py" 172), e P "__cached__" 174 N, e P "_wall" 193 (r 21), e P "YardError" 213 (r 31), e P "BadName" 229 (r 44), e P "Taken" 245 (r 56), e P "BadCourse" 261 (r 68), e P "BadPlace" 277 (r 80), e P "BadWeight" 293 (r 92), e P "Full" 309 (r 104), e P "Crowded" 325 (r 116), e P "NoThing" 341 (r 128), e P "InUse" 357 (r 140), e P "NoSack" 373 (r 152), e P "NoCord" 389 (r 164), e P "BadCord" 405 (r 176), e P "BadDeed" 421 (r 188), e P "BadDay" 437 (r 200), e P "NoEntry" 453 (r 212), e P "NothingThere" 469 (r 224), e P "LETTERS" 473 (s "abcdefghijklmnopqrstuvwxyz" 472), e P "LONGEST_NAME" 475 (i (8) 474), e P "FARTHEST_PLACE" 477 (i (1000000) 476), e P "HIGHEST_COURSE" 479 (i (9) 478), e P "GREATEST_WEIGHT" 481 (i (1000000000) 480)].toArray 32), [].toArray⟩
def OT (P : Params) : Obj := ⟨N, none, (.fields [(i (1) 0), (i (0) 0), (r 20), (i (5) 0), (i (0) 0), (r 27), (i (7) 0), (i (0) 0), (r 40), (i (9) 0), (i (0) 0), (r 52), (i (11) 0), (i (0) 0), (r 64), (i (13) 0), (i (0) 0), (r 76), (i (15) 0), (i (0) 0), (r 88), (i (17) 0), (i (0) 0), (r 100), (i (19) 0), (i (0) 0), (r 112), (i (21) 0), (i (0) 0), (r 124), (i (23) 0), (i (0) 0), (r 136), (i (25) 0), (i (0) 0), (r 148), (i (27) 0), (i (0) 0), (r 160), (i (29) 0), (i (0) 0), (r 172), (i (31) 0), (i (0) 0), (r 184), (i (33) 0), (i (0) 0), (r 196), (i (35) 0), (i (0) 0), (r 208), (i (37) 0), (i (0) 0), (r 220)].toArray), [].toArray⟩
def wG : Ob := tE
def DI : Ob := nE
def vR (P : Params) : Obj := ⟨(T "tuple"), none, (.seq [(s "k" 190)].toArray 0), [].toArray⟩
def wH : Ob := tE
def xj : Ob := gO "_wall" "_wall" (ak 0)
def wj (P : Params) : Obj := ⟨(T "code"), none, (.fields [(s "_wall" 187), (s "_wall" 188), (s "/claim/cut.py" 189), (i (1) 0), (i (1) 0), (i (0) 0), (i (0) 0), (i (3) 0), (r 15), (.bool true), (i (181) 0), (r 16), N, (r 17), (r 18), (r 19), (i (191) 0), (i (1) 0), (s "/claim/cut.py" 192)].toArray), [].toArray⟩
def vP : Ob := fO "_wall" "_wall" (ak 0) 3 "__main__" 164 20 0
def Ci (P : Params) : Obj := ⟨(T "tuple"), none, (.seq [(T "ValueError")].toArray 0), [].toArray⟩
def Ds (P : Params) : Obj := ⟨(T "builtin_function_or_method"), none, (.fields [(B "type.__prepare__"), (T "type")].toArray), [].toArray⟩
def DM (P : Params) : Obj := ⟨(T "dict"), none, (.dict [e P "__module__" 203 (s "dunnage.errors" 194), e P "__qualname__" 205 (s "YardError" 204), e P "__firstlineno__" 207 (i (5) 206), e P "__static_attributes__" 208 (r 29)].toArray 4), [].toArray⟩
def Eb : Ob := tE
def C5 : Ob := nE
def BZ : Ob := cO "YardError" "YardError" 198 199 200 5 0 0 0 0 25 181 0 26 201 5 0 0 202
def Dw (P : Params) : Obj := ⟨(T "frame"), none, .plain, [(some (r 27)), (some (r 3)), (some (r 24)), none, (some (s "dunnage.errors" 194)), none, (some (r 0))].toArray⟩
def wY : Ob := tE
def wJ (P : Params) : Obj := ⟨(T "dict"), none, (.dict [e P "__module__" 203 (s "dunnage.errors" 194), e P "__firstlineno__" 207 (i (5) 206), e P "__static_attributes__" 208 (r 29), e P "__weakref__" 210 (r 32), e P "__doc__" 211 N].toArray 3), [].toArray⟩
def w5 (P : Params) : Obj := ⟨(T "type"), none, (.cls ⟨(q "YardError"), [(T "ValueError")], [(r 31), (T "ValueError"), (T "Exception"), (T "BaseException"), (T "object")], 30, (q "YardError"), true, [], [(r 44), (r 56), (r 68), (r 80), (r 92), (r 104), (r 116), (r 128), (r 140), (r 152), (r 164), (r 176), (r 188), (r 200), (r 212), (r 224)], false, none, false⟩), [(some (r 22)), none, (some (s "YardError" 196)), (some (s "YardError" 204)), (some (B "ValueError.__new__")), (some (.bool true))].toArray⟩
def vO (P : Params) : Obj := ⟨(T "getset_descriptor"), none, (.fields [(s "__weakref__" 209), (r 31), (B "ExceptionGroup.__weakref__"), N].toArray), [].toArray⟩
def BU (P : Params) : Obj := ⟨(T "super"), none, (.fields [(r 31), (r 31), (r 31)].toArray), [].toArray⟩
def Cu (P : Params) : Obj := ⟨(T "builtin_function_or_method"), none, (.fields [(B "object.__init_subclass__"), (r 31)].toArray), [].toArray⟩
def D5 (P : Params) : Obj := ⟨(T "tuple"), none, (.seq [(r 31)].toArray 0), [].toArray⟩
def C6 (P : Params) : Obj := ⟨(T "builtin_function_or_method"), none, (.fields [(B "type.__prepare__"), (T "type")].toArray), [].toArray⟩
def C4 (P : Params) : Obj := ⟨(T "dict"), none, (.dict [e P "__module__" 221 (s "dunnage.errors" 194), e P "__qualname__" 223 (s "BadName" 222), e P "__firstlineno__" 225 (i (7) 224), e P "__static_attributes__" 226 (r 42)].toArray 4), [].toArray⟩
def DP : Ob := tE
def BW : Ob := nE
def Ck : Ob := cO "BadName" "BadName" 216 217 218 7 0 0 0 0 38 181 0 39 219 7 0 0 220
def Df (P : Params) : Obj := ⟨(T "frame"), none, .plain, [(some (r 40)), (some (r 3)), (some (r 37)), none, (some (s "dunnage.errors" 194)), none, (some (r 0))].toArray⟩
def wI : Ob := tE
def wA (P : Params) : Obj := ⟨(T "dict"), none, (.dict [e P "__module__" 221 (s "dunnage.errors" 194), e P "__firstlineno__" 225 (i (7) 224), e P "__static_attributes__" 226 (r 42), e P "__doc__" 227 N].toArray 2), [].toArray⟩
def vN (P : Params) : Obj := ⟨(T "type"), none, (.cls ⟨(q "BadName"), [(r 31)], [(r 44), (r 31), (T "ValueError"), (T "Exception"), (T "BaseException"), (T "object")], 43, (q "BadName"), true, [], [], false, none, false⟩), [(some (r 35)), none, (some (s "BadName" 214)), (some (s "BadName" 222)), (some (B "ValueError.__new__")), (some (.bool true))].toArray⟩
def Cg (P : Params) : Obj := ⟨(T "super"), none, (.fields [(r 44), (r 44), (r 44)].toArray), [].toArray⟩
def DJ (P : Params) : Obj := ⟨(T "builtin_function_or_method"), none, (.fields [(B "object.__init_subclass__"), (r 44)].toArray), [].toArray⟩
def CZ (P : Params) : Obj := ⟨(T "tuple"), none, (.seq [(r 31)].toArray 0), [].toArray⟩
def CF (P : Params) : Obj := ⟨(T "builtin_function_or_method"), none, (.fields [(B "type.__prepare__"), (T "type")].toArray), [].toArray⟩
def DF (P : Params) : Obj := ⟨(T "dict"), none, (.dict [e P "__module__" 237 (s "dunnage.errors" 194), e P "__qualname__" 239 (s "Taken" 238), e P "__firstlineno__" 241 (i (9) 240), e P "__static_attributes__" 242 (r 54)].toArray 4), [].toArray⟩
def C2 : Ob := tE
def Dj : Ob := nE
def DZ : Ob := cO "Taken" "Taken" 232 233 234 9 0 0 0 0 50 181 0 51 235 9 0 0 236
def D7 (P : Params) : Obj := ⟨(T "frame"), none, .plain, [(some (r 52)), (some (r 3)), (some (r 49)), none, (some (s "dunnage.errors" 194)), none, (some (r 0))].toArray⟩
def xm : Ob := tE
def vQ (P : Params) : Obj := ⟨(T "dict"), none, (.dict [e P "__module__" 237 (s "dunnage.errors" 194), e P "__firstlineno__" 241 (i (9) 240), e P "__static_attributes__" 242 (r 54), e P "__doc__" 243 N].toArray 2), [].toArray⟩
def wK (P : Params) : Obj := ⟨(T "type"), none, (.cls ⟨(q "Taken"), [(r 31)], [(r 56), (r 31), (T "ValueError"), (T "Exception"), (T "BaseException"), (T "object")], 55, (q "Taken"), true, [], [], false, none, false⟩), [(some (r 47)), none, (some (s "Taken" 230)), (some (s "Taken" 238)), (some (B "ValueError.__new__")), (some (.bool true))].toArray⟩
def B5 (P : Params) : Obj := ⟨(T "super"), none, (.fields [(r 56), (r 56), (r 56)].toArray), [].toArray⟩
def D4 (P : Params) : Obj := ⟨(T "builtin_function_or_method"), none, (.fields [(B "object.__init_subclass__"), (r 56)].toArray), [].toArray⟩
def Cs (P : Params) : Obj := ⟨(T "tuple"), none, (.seq [(r 31)].toArray 0), [].toArray⟩
def C1 (P : Params) : Obj := ⟨(T "builtin_function_or_method"), none, (.fields [(B "type.__prepare__"), (T "type")].toArray), [].toArray⟩
def Cw (P : Params) : Obj := ⟨(T "dict"), none, (.dict [e P "__module__" 253 (s "dunnage.errors" 194), e P "__qualname__" 255 (s "BadCourse" 254), e P "__firstlineno__" 257 (i (11) 256), e P "__static_attributes__" 258 (r 66)].toArray 4), [].toArray⟩
def Cz : Ob := tE
def D6 : Ob := nE
def Dd : Ob := cO "BadCourse" "BadCourse" 248 249 250 11 0 0 0 0 62 181 0 63 251 11 0 0 252
def DV (P : Params) : Obj := ⟨(T "frame"), none, .plain, [(some (r 64)), (some (r 3)), (some (r 61)), none, (some (s "dunnage.errors" 194)), none, (some (r 0))].toArray⟩
def wo : Ob := tE
def vS (P : Params) : Obj := ⟨(T "dict"), none, (.dict [e P "__module__" 253 (s "dunnage.errors" 194), e P "__firstlineno__" 257 (i (11) 256), e P "__static_attributes__" 258 (r 66), e P "__doc__" 259 N].toArray 2), [].toArray⟩
def xg (P : Params) : Obj := ⟨(T "type"), none, (.cls ⟨(q "BadCourse"), [(r 31)], [(r 68), (r 31), (T "ValueError"), (T "Exception"), (T "BaseException"), (T "object")], 67, (q "BadCourse"), true, [], [], false, none, false⟩), [(some (r 59)), none, (some (s "BadCourse" 246)), (some (s "BadCourse" 254)), (some (B "ValueError.__new__")), (some (.bool true))].toArray⟩
def Ct (P : Params) : Obj := ⟨(T "super"), none, (.fields [(r 68), (r 68), (r 68)].toArray), [].toArray⟩
def Cq (P : Params) : Obj := ⟨(T "builtin_function_or_method"), none, (.fields [(B "object.__init_subclass__"), (r 68)].toArray), [].toArray⟩
def DS (P : Params) : Obj := ⟨(T "tuple"), none, (.seq [(r 31)].toArray 0), [].toArray⟩
def Co (P : Params) : Obj := ⟨(T "builtin_function_or_method"), none, (.fields [(B "type.__prepare__"), (T "type")].toArray), [].toArray⟩
def DQ (P : Params) : Obj := ⟨(T "dict"), none, (.dict [e P "__module__" 269 (s "dunnage.errors" 194), e P "__qualname__" 271 (s "BadPlace" 270), e P "__firstlineno__" 273 (i (13) 272), e P "__static_attributes__" 274 (r 78)].toArray 4), [].toArray⟩
def DE : Ob := tE
def CV : Ob := nE
def Cj : Ob := cO "BadPlace" "BadPlace" 264 265 266 13 0 0 0 0 74 181 0 75 267 13 0 0 268
def CM (P : Params) : Obj := ⟨(T "frame"), none, .plain, [(some (r 76)), (some (r 3)), (some (r 73)), none, (some (s "dunnage.errors" 194)), none, (some (r 0))].toArray⟩
def wh : Ob := tE
def vU (P : Params) : Obj := ⟨(T "dict"), none, (.dict [e P "__module__" 269 (s "dunnage.errors" 194), e P "__firstlineno__" 273 (i (13) 272), e P "__static_attributes__" 274 (r 78), e P "__doc__" 275 N].toArray 2), [].toArray⟩
def wD (P : Params) : Obj := ⟨(T "type"), none, (.cls ⟨(q "BadPlace"), [(r 31)], [(r 80), (r 31), (T "ValueError"), (T "Exception"), (T "BaseException"), (T "object")], 79, (q "BadPlace"), true, [], [], false, none, false⟩), [(some (r 71)), none, (some (s "BadPlace" 262)), (some (s "BadPlace" 270)), (some (B "ValueError.__new__")), (some (.bool true))].toArray⟩
def C7 (P : Params) : Obj := ⟨(T "super"), none, (.fields [(r 80), (r 80), (r 80)].toArray), [].toArray⟩
def CI (P : Params) : Obj := ⟨(T "builtin_function_or_method"), none, (.fields [(B "object.__init_subclass__"), (r 80)].toArray), [].toArray⟩
def Dc (P : Params) : Obj := ⟨(T "tuple"), none, (.seq [(r 31)].toArray 0), [].toArray⟩
def DG (P : Params) : Obj := ⟨(T "builtin_function_or_method"), none, (.fields [(B "type.__prepare__"), (T "type")].toArray), [].toArray⟩
def D8 (P : Params) : Obj := ⟨(T "dict"), none, (.dict [e P "__module__" 285 (s "dunnage.errors" 194), e P "__qualname__" 287 (s "BadWeight" 286), e P "__firstlineno__" 289 (i (15) 288), e P "__static_attributes__" 290 (r 90)].toArray 4), [].toArray⟩
def CN : Ob := tE
def CH : Ob := nE
def B9 : Ob := cO "BadWeight" "BadWeight" 280 281 282 15 0 0 0 0 86 181 0 87 283 15 0 0 284
def Dz (P : Params) : Obj := ⟨(T "frame"), none, .plain, [(some (r 88)), (some (r 3)), (some (r 85)), none, (some (s "dunnage.errors" 194)), none, (some (r 0))].toArray⟩
def wV : Ob := tE
def w9 (P : Params) : Obj := ⟨(T "dict"), none, (.dict [e P "__module__" 285 (s "dunnage.errors" 194), e P "__firstlineno__" 289 (i (15) 288), e P "__static_attributes__" 290 (r 90), e P "__doc__" 291 N].toArray 2), [].toArray⟩
def we (P : Params) : Obj := ⟨(T "type"), none, (.cls ⟨(q "BadWeight"), [(r 31)], [(r 92), (r 31), (T "ValueError"), (T "Exception"), (T "BaseException"), (T "object")], 91, (q "BadWeight"), true, [], [], false, none, false⟩), [(some (r 83)), none, (some (s "BadWeight" 278)), (some (s "BadWeight" 286)), (some (B "ValueError.__new__")), (some (.bool true))].toArray⟩
def BV (P : Params) : Obj := ⟨(T "super"), none, (.fields [(r 92), (r 92), (r 92)].toArray), [].toArray⟩
def DU (P : Params) : Obj := ⟨(T "builtin_function_or_method"), none, (.fields [(B "object.__init_subclass__"), (r 92)].toArray), [].toArray⟩
def C0 (P : Params) : Obj := ⟨(T "tuple"), none, (.seq [(r 31)].toArray 0), [].toArray⟩
def C9 (P : Params) : Obj := ⟨(T "builtin_function_or_method"), none, (.fields [(B "type.__prepare__"), (T "type")].toArray), [].toArray⟩
def CP (P : Params) : Obj := ⟨(T "dict"), none, (.dict [e P "__module__" 301 (s "dunnage.errors" 194), e P "__qualname__" 303 (s "Full" 302), e P "__firstlineno__" 305 (i (17) 304), e P "__static_attributes__" 306 (r 102)].toArray 4), [].toArray⟩
def CQ : Ob := tE
def BY : Ob := nE
def um : Ob := cO "Full" "Full" 296 297 298 17 0 0 0 0 98 181 0 99 299 17 0 0 300
def qK (P : Params) : Obj := ⟨(T "frame"), none, .plain, [(some (r 100)), (some (r 3)), (some (r 97)), none, (some (s "dunnage.errors" 194)), none, (some (r 0))].toArray⟩
def nk : Ob := tE
def m6 (P : Params) : Obj := ⟨(T "dict"), none, (.dict [e P "__module__" 301 (s "dunnage.errors" 194), e P "__firstlineno__" 305 (i (17) 304), e P "__static_attributes__" 306 (r 102), e P "__doc__" 307 N].toArray 2), [].toArray⟩
def ni (P : Params) : Obj := ⟨(T "type"), none, (.cls ⟨(q "Full"), [(r 31)], [(r 104), (r 31), (T "ValueError"), (T "Exception"), (T "BaseException"), (T "object")], 103, (q "Full"), true, [], [], false, none, false⟩), [(some (r 95)), none, (some (s "Full" 294)), (some (s "Full" 302)), (some (B "ValueError.__new__")), (some (.bool true))].toArray⟩
def qP (P : Params) : Obj := ⟨(T "super"), none, (.fields [(r 104), (r 104), (r 104)].toArray), [].toArray⟩
def sL (P : Params) : Obj := ⟨(T "builtin_function_or_method"), none, (.fields [(B "object.__init_subclass__"), (r 104)].toArray), [].toArray⟩
def q8 (P : Params) : Obj := ⟨(T "tuple"), none, (.seq [(r 31)].toArray 0), [].toArray⟩
def tM (P : Params) : Obj := ⟨(T "builtin_function_or_method"), none, (.fields [(B "type.__prepare__"), (T "type")].toArray), [].toArray⟩
def qU (P : Params) : Obj := ⟨(T "dict"), none, (.dict [e P "__module__" 317 (s "dunnage.errors" 194), e P "__qualname__" 319 (s "Crowded" 318), e P "__firstlineno__" 321 (i (19) 320), e P "__static_attributes__" 322 (r 114)].toArray 4), [].toArray⟩
def qY : Ob := tE
def uW : Ob := nE
def rO : Ob := cO "Crowded" "Crowded" 312 313 314 19 0 0 0 0 110 181 0 111 315 19 0 0 316
def qN (P : Params) : Obj := ⟨(T "frame"), none, .plain, [(some (r 112)), (some (r 3)), (some (r 109)), none, (some (s "dunnage.errors" 194)), none, (some (r 0))].toArray⟩
def oE : Ob := tE
def nX (P : Params) : Obj := ⟨(T "dict"), none, (.dict [e P "__module__" 317 (s "dunnage.errors" 194), e P "__firstlineno__" 321 (i (19) 320), e P "__static_attributes__" 322 (r 114), e P "__doc__" 323 N].toArray 2), [].toArray⟩
def pC (P : Params) : Obj := ⟨(T "type"), none, (.cls ⟨(q "Crowded"), [(r 31)], [(r 116), (r 31), (T "ValueError"), (T "Exception"), (T "BaseException"), (T "object")], 115, (q "Crowded"), true, [], [], false, none, false⟩), [(some (r 107)), none, (some (s "Crowded" 310)), (some (s "Crowded" 318)), (some (B "ValueError.__new__")), (some (.bool true))].toArray⟩
def sf (P : Params) : Obj := ⟨(T "super"), none, (.fields [(r 116), (r 116), (r 116)].toArray), [].toArray⟩
def uE (P : Params) : Obj := ⟨(T "builtin_function_or_method"), none, (.fields [(B "object.__init_subclass__"), (r 116)].toArray), [].toArray⟩
def qT (P : Params) : Obj := ⟨(T "tuple"), none, (.seq [(r 31)].toArray 0), [].toArray⟩
def tZ (P : Params) : Obj := ⟨(T "builtin_function_or_method"), none, (.fields [(B "type.__prepare__"), (T "type")].toArray), [].toArray⟩
def uy (P : Params) : Obj := ⟨(T "dict"), none, (.dict [e P "__module__" 333 (s "dunnage.errors" 194), e P "__qualname__" 335 (s "NoThing" 334), e P "__firstlineno__" 337 (i (21) 336), e P "__static_attributes__" 338 (r 126)].toArray 4), [].toArray⟩
def tD : Ob := tE
def rg : Ob := nE
def uI : Ob := cO "NoThing" "NoThing" 328 329 330 21 0 0 0 0 122 181 0 123 331 21 0 0 332
def sW (P : Params) : Obj := ⟨(T "frame"), none, .plain, [(some (r 124)), (some (r 3)), (some (r 121)), none, (some (s "dunnage.errors" 194)), none, (some (r 0))].toArray⟩
def nO : Ob := tE
def oN (P : Params) : Obj := ⟨(T "dict"), none, (.dict [e P "__module__" 333 (s "dunnage.errors" 194), e P "__firstlineno__" 337 (i (21) 336), e P "__static_attributes__" 338 (r 126), e P "__doc__" 339 N].toArray 2), [].toArray⟩
def oj (P : Params) : Obj := ⟨(T "type"), none, (.cls ⟨(q "NoThing"), [(r 31)], [(r 128), (r 31), (T "ValueError"), (T "Exception"), (T "BaseException"), (T "object")], 127, (q "NoThing"), true, [], [], false, none, false⟩), [(some (r 119)), none, (some (s "NoThing" 326)), (some (s "NoThing" 334)), (some (B "ValueError.__new__")), (some (.bool true))].toArray⟩
def qL (P : Params) : Obj := ⟨(T "super"), none, (.fields [(r 128), (r 128), (r 128)].toArray), [].toArray⟩
def rA (P : Params) : Obj := ⟨(T "builtin_function_or_method"), none, (.fields [(B "object.__init_subclass__"), (r 128)].toArray), [].toArray⟩
def uz (P : Params) : Obj := ⟨(T "tuple"), none, (.seq [(r 31)].toArray 0), [].toArray⟩
def r9 (P : Params) : Obj := ⟨(T "builtin_function_or_method"), none, (.fields [(B "type.__prepare__"), (T "type")].toArray), [].toArray⟩
def tK (P : Params) : Obj := ⟨(T "dict"), none, (.dict [e P "__module__" 349 (s "dunnage.errors" 194), e P "__qualname__" 351 (s "InUse" 350), e P "__firstlineno__" 353 (i (23) 352), e P "__static_attributes__" 354 (r 138)].toArray 4), [].toArray⟩
def sP : Ob := tE
def uX : Ob := nE
def sG : Ob := cO "InUse" "InUse" 344 345 346 23 0 0 0 0 134 181 0 135 347 23 0 0 348
def tL (P : Params) : Obj := ⟨(T "frame"), none, .plain, [(some (r 136)), (some (r 3)), (some (r 133)), none, (some (s "dunnage.errors" 194)), none, (some (r 0))].toArray⟩
def oF : Ob := tE
def nv (P : Params) : Obj := ⟨(T "dict"), none, (.dict [e P "__module__" 349 (s "dunnage.errors" 194), e P "__firstlineno__" 353 (i (23) 352), e P "__static_attributes__" 354 (r 138), e P "__doc__" 355 N].toArray 2), [].toArray⟩
def nQ (P : Params) : Obj := ⟨(T "type"), none, (.cls ⟨(q "InUse"), [(r 31)], [(r 140), (r 31), (T "ValueError"), (T "Exception"), (T "BaseException"), (T "object")], 139, (q "InUse"), true, [], [], false, none, false⟩), [(some (r 131)), none, (some (s "InUse" 342)), (some (s "InUse" 350)), (some (B "ValueError.__new__")), (some (.bool true))].toArray⟩
def uf (P : Params) : Obj := ⟨(T "super"), none, (.fields [(r 140), (r 140), (r 140)].toArray), [].toArray⟩
def rS (P : Params) : Obj := ⟨(T "builtin_function_or_method"), none, (.fields [(B "object.__init_subclass__"), (r 140)].toArray), [].toArray⟩
def uG (P : Params) : Obj := ⟨(T "tuple"), none, (.seq [(r 31)].toArray 0), [].toArray⟩
def vh (P : Params) : Obj := ⟨(T "builtin_function_or_method"), none, (.fields [(B "type.__prepare__"), (T "type")].toArray), [].toArray⟩
def uq (P : Params) : Obj := ⟨(T "dict"), none, (.dict [e P "__module__" 365 (s "dunnage.errors" 194), e P "__qualname__" 367 (s "NoSack" 366), e P "__firstlineno__" 369 (i (25) 368), e P "__static_attributes__" 370 (r 150)].toArray 4), [].toArray⟩
def uA : Ob := tE
def ux : Ob := nE
def tw : Ob := cO "NoSack" "NoSack" 360 361 362 25 0 0 0 0 146 181 0 147 363 25 0 0 364
def ue (P : Params) : Obj := ⟨(T "frame"), none, .plain, [(some (r 148)), (some (r 3)), (some (r 145)), none, (some (s "dunnage.errors" 194)), none, (some (r 0))].toArray⟩
def nH : Ob := tE
def nK (P : Params) : Obj := ⟨(T "dict"), none, (.dict [e P "__module__" 365 (s "dunnage.errors" 194), e P "__firstlineno__" 369 (i (25) 368), e P "__static_attributes__" 370 (r 150), e P "__doc__" 371 N].toArray 2), [].toArray⟩
def o9 (P : Params) : Obj := ⟨(T "type"), none, (.cls ⟨(q "NoSack"), [(r 31)], [(r 152), (r 31), (T "ValueError"), (T "Exception"), (T "BaseException"), (T "object")], 151, (q "NoSack"), true, [], [], false, none, false⟩), [(some (r 143)), none, (some (s "NoSack" 358)), (some (s "NoSack" 366)), (some (B "ValueError.__new__")), (some (.bool true))].toArray⟩
def qV (P : Params) : Obj := ⟨(T "super"), none, (.fields [(r 152), (r 152), (r 152)].toArray), [].toArray⟩
def qM (P : Params) : Obj := ⟨(T "builtin_function_or_method"), none, (.fields [(B "object.__init_subclass__"), (r 152)].toArray), [].toArray⟩
def tU (P : Params) : Obj := ⟨(T "tuple"), none, (.seq [(r 31)].toArray 0), [].toArray⟩
def rZ (P : Params) : Obj := ⟨(T "builtin_function_or_method"), none, (.fields [(B "type.__prepare__"), (T "type")].toArray), [].toArray⟩
def sY (P : Params) : Obj := ⟨(T "dict"), none, (.dict [e P "__module__" 381 (s "dunnage.errors" 194), e P "__qualname__" 383 (s "NoCord" 382), e P "__firstlineno__" 385 (i (27) 384), e P "__static_attributes__" 386 (r 162)].toArray 4), [].toArray⟩
def tW : Ob := tE
def rf : Ob := nE
def rV : Ob := cO "NoCord" "NoCord" 376 377 378 27 0 0 0 0 158 181 0 159 379 27 0 0 380
def u0 (P : Params) : Obj := ⟨(T "frame"), none, .plain, [(some (r 160)), (some (r 3)), (some (r 157)), none, (some (s "dunnage.errors" 194)), none, (some (r 0))].toArray⟩
def oQ : Ob := tE
def oO (P : Params) : Obj := ⟨(T "dict"), none, (.dict [e P "__module__" 381 (s "dunnage.errors" 194), e P "__firstlineno__" 385 (i (27) 384), e P "__static_attributes__" 386 (r 162), e P "__doc__" 387 N].toArray 2), [].toArray⟩
def nU (P : Params) : Obj := ⟨(T "type"), none, (.cls ⟨(q "NoCord"), [(r 31)], [(r 164), (r 31), (T "ValueError"), (T "Exception"), (T "BaseException"), (T "object")], 163, (q "NoCord"), true, [], [], false, none, false⟩), [(some (r 155)), none, (some (s "NoCord" 374)), (some (s "NoCord" 382)), (some (B "ValueError.__new__")), (some (.bool true))].toArray⟩
def rC (P : Params) : Obj := ⟨(T "super"), none, (.fields [(r 164), (r 164), (r 164)].toArray), [].toArray⟩
def rX (P : Params) : Obj := ⟨(T "builtin_function_or_method"), none, (.fields [(B "object.__init_subclass__"), (r 164)].toArray), [].toArray⟩
def sH (P : Params) : Obj := ⟨(T "tuple"), none, (.seq [(r 31)].toArray 0), [].toArray⟩
def ri (P : Params) : Obj := ⟨(T "builtin_function_or_method"), none, (.fields [(B "type.__prepare__"), (T "type")].toArray), [].toArray⟩
def uK (P : Params) : Obj := ⟨(T "dict"), none, (.dict [e P "__module__" 397 (s "dunnage.errors" 194), e P "__qualname__" 399 (s "BadCord" 398), e P "__firstlineno__" 401 (i (29) 400), e P "__static_attributes__" 402 (r 174)].toArray 4), [].toArray⟩
def u6 : Ob := tE
def u7 : Ob := nE
def tF : Ob := cO "BadCord" "BadCord" 392 393 394 29 0 0 0 0 170 181 0 171 395 29 0 0 396
def rR (P : Params) : Obj := ⟨(T "frame"), none, .plain, [(some (r 172)), (some (r 3)), (some (r 169)), none, (some (s "dunnage.errors" 194)), none, (some (r 0))].toArray⟩
def nP : Ob := tE
def oK (P : Params) : Obj := ⟨(T "dict"), none, (.dict [e P "__module__" 397 (s "dunnage.errors" 194), e P "__firstlineno__" 401 (i (29) 400), e P "__static_attributes__" 402 (r 174), e P "__doc__" 403 N].toArray 2), [].toArray⟩
def oX (P : Params) : Obj := ⟨(T "type"), none, (.cls ⟨(q "BadCord"), [(r 31)], [(r 176), (r 31), (T "ValueError"), (T "Exception"), (T "BaseException"), (T "object")], 175, (q "BadCord"), true, [], [], false, none, false⟩), [(some (r 167)), none, (some (s "BadCord" 390)), (some (s "BadCord" 398)), (some (B "ValueError.__new__")), (some (.bool true))].toArray⟩
def rQ (P : Params) : Obj := ⟨(T "super"), none, (.fields [(r 176), (r 176), (r 176)].toArray), [].toArray⟩
def uR (P : Params) : Obj := ⟨(T "builtin_function_or_method"), none, (.fields [(B "object.__init_subclass__"), (r 176)].toArray), [].toArray⟩
def uQ (P : Params) : Obj := ⟨(T "tuple"), none, (.seq [(r 31)].toArray 0), [].toArray⟩
def qX (P : Params) : Obj := ⟨(T "builtin_function_or_method"), none, (.fields [(B "type.__prepare__"), (T "type")].toArray), [].toArray⟩
def rL (P : Params) : Obj := ⟨(T "dict"), none, (.dict [e P "__module__" 413 (s "dunnage.errors" 194), e P "__qualname__" 415 (s "BadDeed" 414), e P "__firstlineno__" 417 (i (31) 416), e P "__static_attributes__" 418 (r 186)].toArray 4), [].toArray⟩
def ua : Ob := tE
def uu : Ob := nE
def sE : Ob := cO "BadDeed" "BadDeed" 408 409 410 31 0 0 0 0 182 181 0 183 411 31 0 0 412
def sC (P : Params) : Obj := ⟨(T "frame"), none, .plain, [(some (r 184)), (some (r 3)), (some (r 181)), none, (some (s "dunnage.errors" 194)), none, (some (r 0))].toArray⟩
def oV : Ob := tE
def nJ (P : Params) : Obj := ⟨(T "dict"), none, (.dict [e P "__module__" 413 (s "dunnage.errors" 194), e P "__firstlineno__" 417 (i (31) 416), e P "__static_attributes__" 418 (r 186), e P "__doc__" 419 N].toArray 2), [].toArray⟩
def ou (P : Params) : Obj := ⟨(T "type"), none, (.cls ⟨(q "BadDeed"), [(r 31)], [(r 188), (r 31), (T "ValueError"), (T "Exception"), (T "BaseException"), (T "object")], 187, (q "BadDeed"), true, [], [], false, none, false⟩), [(some (r 179)), none, (some (s "BadDeed" 406)), (some (s "BadDeed" 414)), (some (B "ValueError.__new__")), (some (.bool true))].toArray⟩
def uo (P : Params) : Obj := ⟨(T "super"), none, (.fields [(r 188), (r 188), (r 188)].toArray), [].toArray⟩
def q9 (P : Params) : Obj := ⟨(T "builtin_function_or_method"), none, (.fields [(B "object.__init_subclass__"), (r 188)].toArray), [].toArray⟩
def vd (P : Params) : Obj := ⟨(T "tuple"), none, (.seq [(r 31)].toArray 0), [].toArray⟩
def sZ (P : Params) : Obj := ⟨(T "builtin_function_or_method"), none, (.fields [(B "type.__prepare__"), (T "type")].toArray), [].toArray⟩
def rY (P : Params) : Obj := ⟨(T "dict"), none, (.dict [e P "__module__" 429 (s "dunnage.errors" 194), e P "__qualname__" 431 (s "BadDay" 430), e P "__firstlineno__" 433 (i (33) 432), e P "__static_attributes__" 434 (r 198)].toArray 4), [].toArray⟩
def u9 : Ob := tE
def tG : Ob := nE
def rF : Ob := cO "BadDay" "BadDay" 424 425 426 33 0 0 0 0 194 181 0 195 427 33 0 0 428
def rT (P : Params) : Obj := ⟨(T "frame"), none, .plain, [(some (r 196)), (some (r 3)), (some (r 193)), none, (some (s "dunnage.errors" 194)), none, (some (r 0))].toArray⟩
def m9 : Ob := tE
def pA (P : Params) : Obj := ⟨(T "dict"), none, (.dict [e P "__module__" 429 (s "dunnage.errors" 194), e P "__firstlineno__" 433 (i (33) 432), e P "__static_attributes__" 434 (r 198), e P "__doc__" 435 N].toArray 2), [].toArray⟩
def oZ (P : Params) : Obj := ⟨(T "type"), none, (.cls ⟨(q "BadDay"), [(r 31)], [(r 200), (r 31), (T "ValueError"), (T "Exception"), (T "BaseException"), (T "object")], 199, (q "BadDay"), true, [], [], false, none, false⟩), [(some (r 191)), none, (some (s "BadDay" 422)), (some (s "BadDay" 430)), (some (B "ValueError.__new__")), (some (.bool true))].toArray⟩
def rN (P : Params) : Obj := ⟨(T "super"), none, (.fields [(r 200), (r 200), (r 200)].toArray), [].toArray⟩
def tT (P : Params) : Obj := ⟨(T "builtin_function_or_method"), none, (.fields [(B "object.__init_subclass__"), (r 200)].toArray), [].toArray⟩
def uH (P : Params) : Obj := ⟨(T "tuple"), none, (.seq [(r 31)].toArray 0), [].toArray⟩
def rM (P : Params) : Obj := ⟨(T "builtin_function_or_method"), none, (.fields [(B "type.__prepare__"), (T "type")].toArray), [].toArray⟩
def tP (P : Params) : Obj := ⟨(T "dict"), none, (.dict [e P "__module__" 445 (s "dunnage.errors" 194), e P "__qualname__" 447 (s "NoEntry" 446), e P "__firstlineno__" 449 (i (35) 448), e P "__static_attributes__" 450 (r 210)].toArray 4), [].toArray⟩
def sj : Ob := tE
def uL : Ob := nE
def qO : Ob := cO "NoEntry" "NoEntry" 440 441 442 35 0 0 0 0 206 181 0 207 443 35 0 0 444
def tN (P : Params) : Obj := ⟨(T "frame"), none, .plain, [(some (r 208)), (some (r 3)), (some (r 205)), none, (some (s "dunnage.errors" 194)), none, (some (r 0))].toArray⟩
def oU : Ob := tE
def o6 (P : Params) : Obj := ⟨(T "dict"), none, (.dict [e P "__module__" 445 (s "dunnage.errors" 194), e P "__firstlineno__" 449 (i (35) 448), e P "__static_attributes__" 450 (r 210), e P "__doc__" 451 N].toArray 2), [].toArray⟩
def pB (P : Params) : Obj := ⟨(T "type"), none, (.cls ⟨(q "NoEntry"), [(r 31)], [(r 212), (r 31), (T "ValueError"), (T "Exception"), (T "BaseException"), (T "object")], 211, (q "NoEntry"), true, [], [], false, none, false⟩), [(some (r 203)), none, (some (s "NoEntry" 438)), (some (s "NoEntry" 446)), (some (B "ValueError.__new__")), (some (.bool true))].toArray⟩
def t8 (P : Params) : Obj := ⟨(T "super"), none, (.fields [(r 212), (r 212), (r 212)].toArray), [].toArray⟩
def rW (P : Params) : Obj := ⟨(T "builtin_function_or_method"), none, (.fields [(B "object.__init_subclass__"), (r 212)].toArray), [].toArray⟩
def uM (P : Params) : Obj := ⟨(T "tuple"), none, (.seq [(r 31)].toArray 0), [].toArray⟩
def rP (P : Params) : Obj := ⟨(T "builtin_function_or_method"), none, (.fields [(B "type.__prepare__"), (T "type")].toArray), [].toArray⟩
def sN (P : Params) : Obj := ⟨(T "dict"), none, (.dict [e P "__module__" 461 (s "dunnage.errors" 194), e P "__qualname__" 463 (s "NothingThere" 462), e P "__firstlineno__" 465 (i (37) 464), e P "__static_attributes__" 466 (r 222)].toArray 4), [].toArray⟩
def uJ : Ob := tE
def t9 : Ob := nE
def q6 : Ob := cO "NothingThere" "NothingThere" 456 457 458 37 0 0 0 0 218 181 0 219 459 37 0 0 460
def sJ (P : Params) : Obj := ⟨(T "frame"), none, .plain, [(some (r 220)), (some (r 3)), (some (r 217)), none, (some (s "dunnage.errors" 194)), none, (some (r 0))].toArray⟩
def nG : Ob := tE
def ng (P : Params) : Obj := ⟨(T "dict"), none, (.dict [e P "__module__" 461 (s "dunnage.errors" 194), e P "__firstlineno__" 465 (i (37) 464), e P "__static_attributes__" 466 (r 222), e P "__doc__" 467 N].toArray 2), [].toArray⟩
def oY (P : Params) : Obj := ⟨(T "type"), none, (.cls ⟨(q "NothingThere"), [(r 31)], [(r 224), (r 31), (T "ValueError"), (T "Exception"), (T "BaseException"), (T "object")], 223, (q "NothingThere"), true, [], [], false, none, false⟩), [(some (r 215)), none, (some (s "NothingThere" 454)), (some (s "NothingThere" 462)), (some (B "ValueError.__new__")), (some (.bool true))].toArray⟩
def uC (P : Params) : Obj := ⟨(T "super"), none, (.fields [(r 224), (r 224), (r 224)].toArray), [].toArray⟩
def sM (P : Params) : Obj := ⟨(T "builtin_function_or_method"), none, (.fields [(B "object.__init_subclass__"), (r 224)].toArray), [].toArray⟩
def Uo (P : Params) : PySem.W.BT := (n (PySem.W.boot_o_0 P) (n (PySem.W.boot_o_1 P) (n (Ve P) (n (PySem.W.boot_o_7 P) (n (wG P) (n (w5 P) (n (D6 P) (y (oN P)) (y (vd P))) (n (C0 P) (y (rf P)) (y (ng P)))) (n (CZ P) (n (vU P) (y (uG P)) (y (uL P))) (n (uW P) (y (oK P)) z))) (n (Ds P) (n (BW P) (n (DS P) (y (uX P)) (y (pA P))) (n (m6 P) (y (sH P)) z)) (n (vQ P) (n (CH P) (y (nK P)) (y (uM P))) (n (qT P) (y (uu P)) z)))) (n (wZ P) (n (xj P) (n (D5 P) (n (vS P) (y (uz P)) (y (tG P))) (n (BY P) (y (oO P)) z)) (n (Dj P) (n (Dc P) (y (ux P)) (y (o6 P))) (n (nX P) (y (uQ P)) z))) (n (BZ P) (n (wA P) (n (CV P) (y (nv P)) (y (uH P))) (n (q8 P) (y (u7 P)) z)) (n (Cs P) (n (w9 P) (y (tU P)) (y (t9 P))) (n (rg P) (y (nJ P)) z))))) (n (PySem.W.boot_o_5 P) (n (PySem.W.boot_o_9 P) (n (vR P) (n (BU P) (n (DV P) (y (qL P)) (y (rY P))) (n (CP P) (y (u0 P)) (y (uC P)))) (n (DF P) (n (C7 P) (y (uq P)) (y (tN P))) (n (qN P) (y (rQ P)) z))) (n (Eb P) (n (Df P) (n (DQ P) (y (tL P)) (y (rN P))) (n (qP P) (y (uK P)) z)) (n (B5 P) (n (Dz P) (y (qV P)) (y (sN P))) (n (uy P) (y (sC P)) z)))) (n (vZ P) (n (vP P) (n (C4 P) (n (Ct P) (y (tK P)) (y (rT P))) (n (qK P) (y (rC P)) z)) (n (D7 P) (n (D8 P) (y (ue P)) (y (t8 P))) (n (sf P) (y (rL P)) z))) (n (wY P) (n (Cg P) (n (CM P) (y (uf P)) (y (tP P))) (n (qU P) (y (rR P)) z)) (n (Cw P) (n (BV P) (y (sY P)) (y (sJ P))) (n (sW P) (y (uo P)) z)))))) (n (PySem.W.boot_o_2 P) (n (PySem.W.boot_o_4 P) (n (PySem.W.boot_o_8 P) (n (DI P) (n (vO P) (n (Dd P) (y (oj P)) (y (sZ P))) (n (C9 P) (y (rV P)) (y (oY P)))) (n (CF P) (n (wD P) (y (vh P)) (y (qO P))) (n (rO P) (y (oX P)) z))) (n (DM P) (n (Ck P) (n (Co P) (y (sG P)) (y (oZ P))) (n (ni P) (y (ri P)) z)) (n (wK P) (n (B9 P) (y (o9 P)) (y (rP P))) (n (tZ P) (y (sE P)) z)))) (n (OT P) (n (wj P) (n (C6 P) (n (xg P) (y (r9 P)) (y (rF P))) (n (um P) (y (nU P)) z)) (n (DZ P) (n (DG P) (y (tw P)) (y (pB P))) (n (pC P) (y (qX P)) z))) (n (Dw P) (n (vN P) (n (Cj P) (y (nQ P)) (y (rM P))) (n (tM P) (y (tF P)) z)) (n (C1 P) (n (we P) (y (rZ P)) (y (q6 P))) (n (uI P) (y (ou P)) z))))) (n (PySem.W.boot_o_6 P) (n (PySem.W.boot_o_10 P) (n (wH P) (n (Cu P) (n (wo P) (y (rA P)) (y (u9 P))) (n (CQ P) (y (oQ P)) (y (sM P)))) (n (C2 P) (n (CI P) (y (uA P)) (y (oU P))) (n (oE P) (y (uR P)) z))) (n (C5 P) (n (wI P) (n (DE P) (y (oF P)) (y (tT P))) (n (sL P) (y (u6 P)) z)) (n (D4 P) (n (wV P) (y (qM P)) (y (uJ P))) (n (tD P) (y (oV P)) z)))) (n (wL P) (n (Ci P) (n (DP P) (n (Cq P) (y (sP P)) (y (m9 P))) (n (nk P) (y (rX P)) z)) (n (xm P) (n (CN P) (y (nH P)) (y (rW P))) (n (uE P) (y (ua P)) z))) (n (wJ P) (n (DJ P) (n (wh P) (y (rS P)) (y (sj P))) (n (qY P) (y (nP P)) z)) (n (Cz P) (n (DU P) (y (tW P)) (y (nG P))) (n (nO P) (y (q9 P)) z)))))))
def Vq (P : Params) : Obj := ⟨(T "dict"), none, (.dict [e P "__name__" 165 (s "dunnage.deeds" 470), e P "__doc__" 166 N, e P "__package__" 167 N, e P "__loader__" 168 (B "__main__.__loader__#opaque"), e P "__spec__" 169 N, e P "__annotations__" 170 (r 6), e P "__builtins__" 171 (r 4), e P "__file__" 173 (s "/claim/cut.py" 172), e P "__cached__" 174 N, e P "_wall" 193 (r 21), e P "YardError" 213 (r 31), e P "BadName" 229 (r 44), e P "Taken" 245 (r 56), e P "BadCourse" 261 (r 68), e P "BadPlace" 277 (r 80), e P "BadWeight" 293 (r 92), e P "Full" 309 (r 104), e P "Crowded" 325 (r 116), e P "NoThing" 341 (r 128), e P "InUse" 357 (r 140), e P "NoSack" 373 (r 152), e P "NoCord" 389 (r 164), e P "BadCord" 405 (r 176), e P "BadDeed" 421 (r 188), e P "BadDay" 437 (r 200), e P "NoEntry" 453 (r 212), e P "NothingThere" 469 (r 224), e P "LETTERS" 473 (s "abcdefghijklmnopqrstuvwxyz" 472), e P "LONGEST_NAME" 475 (i (8) 474), e P "FARTHEST_PLACE" 477 (i (1000000) 476), e P "HIGHEST_COURSE" 479 (i (9) 478), e P "GREATEST_WEIGHT" 481 (i (1000000000) 480), e P "DEED_THINGS" 525 (r 227)].toArray 33), [].toArray⟩
def uP (P : Params) : Obj := ⟨(T "dict"), none, (.dict [e P "trestle" 482 (r 228), e P "board" 487 (r 229), e P "away" 493 (r 230), e P "along" 495 (r 231), e P "sack" 498 (r 232), e P "move" 503 (r 233), e P "lift" 507 (r 234), e P "cord" 509 (r 235), e P "cut" 514 (r 236)].toArray 9), [].toArray⟩
def uT (P : Params) : Obj := ⟨(T "tuple"), none, (.seq [(s "name" 483), (s "number" 484), (s "number" 485), (s "number" 486)].toArray 0), [].toArray⟩
def vc (P : Params) : Obj := ⟨(T "tuple"), none, (.seq [(s "name" 488), (s "number" 489), (s "number" 490), (s "number" 491), (s "number" 492)].toArray 0), [].toArray⟩
def tQ (P : Params) : Obj := ⟨(T "tuple"), none, (.seq [(s "name" 494)].toArray 0), [].toArray⟩
def ug (P : Params) : Obj := ⟨(T "tuple"), none, (.seq [(s "name" 496), (s "number" 497)].toArray 0), [].toArray⟩
def uU (P : Params) : Obj := ⟨(T "tuple"), none, (.seq [(s "name" 499), (s "name" 500), (s "number" 501), (s "number" 502)].toArray 0), [].toArray⟩
def rB (P : Params) : Obj := ⟨(T "tuple"), none, (.seq [(s "name" 504), (s "name" 505), (s "number" 506)].toArray 0), [].toArray⟩
def sO (P : Params) : Obj := ⟨(T "tuple"), none, (.seq [(s "name" 508)].toArray 0), [].toArray⟩
def rH (P : Params) : Obj := ⟨(T "tuple"), none, (.seq [(s "name" 510), (s "upper" 511), (s "name" 512), (s "number" 513)].toArray 0), [].toArray⟩
def rJ (P : Params) : Obj := ⟨(T "tuple"), none, (.seq [(s "name" 515)].toArray 0), [].toArray⟩
def Um (P : Params) : PySem.W.BT := (n (PySem.W.boot_o_0 P) (n (PySem.W.boot_o_1 P) (n (Vq P) (n (PySem.W.boot_o_7 P) (n (wG P) (n (w5 P) (n (D6 P) (y (oN P)) (y (vd P))) (n (C0 P) (y (rf P)) (y (ng P)))) (n (CZ P) (n (vU P) (y (uG P)) (y (uL P))) (n (uW P) (y (oK P)) z))) (n (Ds P) (n (BW P) (n (DS P) (y (uX P)) (y (pA P))) (n (m6 P) (y (sH P)) (y (ug P)))) (n (vQ P) (n (CH P) (y (nK P)) (y (uM P))) (n (qT P) (y (uu P)) z)))) (n (wZ P) (n (xj P) (n (D5 P) (n (vS P) (y (uz P)) (y (tG P))) (n (BY P) (y (oO P)) (y (uP P)))) (n (Dj P) (n (Dc P) (y (ux P)) (y (o6 P))) (n (nX P) (y (uQ P)) z))) (n (BZ P) (n (wA P) (n (CV P) (y (nv P)) (y (uH P))) (n (q8 P) (y (u7 P)) (y (rH P)))) (n (Cs P) (n (w9 P) (y (tU P)) (y (t9 P))) (n (rg P) (y (nJ P)) z))))) (n (PySem.W.boot_o_5 P) (n (PySem.W.boot_o_9 P) (n (vR P) (n (BU P) (n (DV P) (y (qL P)) (y (rY P))) (n (CP P) (y (u0 P)) (y (uC P)))) (n (DF P) (n (C7 P) (y (uq P)) (y (tN P))) (n (qN P) (y (rQ P)) z))) (n (Eb P) (n (Df P) (n (DQ P) (y (tL P)) (y (rN P))) (n (qP P) (y (uK P)) (y (rB P)))) (n (B5 P) (n (Dz P) (y (qV P)) (y (sN P))) (n (uy P) (y (sC P)) z)))) (n (vZ P) (n (vP P) (n (C4 P) (n (Ct P) (y (tK P)) (y (rT P))) (n (qK P) (y (rC P)) (y (vc P)))) (n (D7 P) (n (D8 P) (y (ue P)) (y (t8 P))) (n (sf P) (y (rL P)) z))) (n (wY P) (n (Cg P) (n (CM P) (y (uf P)) (y (tP P))) (n (qU P) (y (rR P)) z)) (n (Cw P) (n (BV P) (y (sY P)) (y (sJ P))) (n (sW P) (y (uo P)) z)))))) (n (PySem.W.boot_o_2 P) (n (PySem.W.boot_o_4 P) (n (PySem.W.boot_o_8 P) (n (DI P) (n (vO P) (n (Dd P) (y (oj P)) (y (sZ P))) (n (C9 P) (y (rV P)) (y (oY P)))) (n (CF P) (n (wD P) (y (vh P)) (y (qO P))) (n (rO P) (y (oX P)) z))) (n (DM P) (n (Ck P) (n (Co P) (y (sG P)) (y (oZ P))) (n (ni P) (y (ri P)) (y (uU P)))) (n (wK P) (n (B9 P) (y (o9 P)) (y (rP P))) (n (tZ P) (y (sE P)) z)))) (n (OT P) (n (wj P) (n (C6 P) (n (xg P) (y (r9 P)) (y (rF P))) (n (um P) (y (nU P)) (y (uT P)))) (n (DZ P) (n (DG P) (y (tw P)) (y (pB P))) (n (pC P) (y (qX P)) z))) (n (Dw P) (n (vN P) (n (Cj P) (y (nQ P)) (y (rM P))) (n (tM P) (y (tF P)) (y (rJ P)))) (n (C1 P) (n (we P) (y (rZ P)) (y (q6 P))) (n (uI P) (y (ou P)) z))))) (n (PySem.W.boot_o_6 P) (n (PySem.W.boot_o_10 P) (n (wH P) (n (Cu P) (n (wo P) (y (rA P)) (y (u9 P))) (n (CQ P) (y (oQ P)) (y (sM P)))) (n (C2 P) (n (CI P) (y (uA P)) (y (oU P))) (n (oE P) (y (uR P)) z))) (n (C5 P) (n (wI P) (n (DE P) (y (oF P)) (y (tT P))) (n (sL P) (y (u6 P)) (y (sO P)))) (n (D4 P) (n (wV P) (y (qM P)) (y (uJ P))) (n (tD P) (y (oV P)) z)))) (n (wL P) (n (Ci P) (n (DP P) (n (Cq P) (y (sP P)) (y (m9 P))) (n (nk P) (y (rX P)) (y (tQ P)))) (n (xm P) (n (CN P) (y (nH P)) (y (rW P))) (n (uE P) (y (ua P)) z))) (n (wJ P) (n (DJ P) (n (wh P) (y (rS P)) (y (sj P))) (n (qY P) (y (nP P)) z)) (n (Cz P) (n (DU P) (y (tW P)) (y (nG P))) (n (nO P) (y (q9 P)) z)))))))
def Vr (P : Params) : Obj := ⟨(T "dict"), none, (.dict [e P "__name__" 165 (s "dunnage.yard" 567), e P "__doc__" 166 N, e P "__package__" 167 N, e P "__loader__" 168 (B "__main__.__loader__#opaque"), e P "__spec__" 169 N, e P "__annotations__" 170 (r 6), e P "__builtins__" 171 (r 4), e P "__file__" 173 (s "/claim/cut.py" 172), e P "__cached__" 174 N, e P "_wall" 193 (r 21), e P "YardError" 213 (r 31), e P "BadName" 229 (r 44), e P "Taken" 245 (r 56), e P "BadCourse" 261 (r 68), e P "BadPlace" 277 (r 80), e P "BadWeight" 293 (r 92), e P "Full" 309 (r 104), e P "Crowded" 325 (r 116), e P "NoThing" 341 (r 128), e P "InUse" 357 (r 140), e P "NoSack" 373 (r 152), e P "NoCord" 389 (r 164), e P "BadCord" 405 (r 176), e P "BadDeed" 421 (r 188), e P "BadDay" 437 (r 200), e P "NoEntry" 453 (r 212), e P "NothingThere" 469 (r 224), e P "LETTERS" 473 (s "abcdefghijklmnopqrstuvwxyz" 472), e P "LONGEST_NAME" 475 (i (8) 474), e P "FARTHEST_PLACE" 477 (i (1000000) 476), e P "HIGHEST_COURSE" 479 (i (9) 478), e P "GREATEST_WEIGHT" 481 (i (1000000000) 480), e P "DEED_THINGS" 525 (r 227), e P "check_form" 532 (r 243), e P "is_name" 538 (r 248), e P "is_number" 545 (r 255), e P "is_place" 552 (r 262), e P "is_course" 559 (r 269), e P "is_weight" 566 (r 276), e P "MOST_BOARDS" 570 (i (6) 569), e P "MOST_TRESTLES" 572 (i (6) 571), e P "MOST_SACKS" 574 (i (8) 573), e P "MOST_CORDS" 576 (i (4) 575), e P "BEAM" 578 (s "" 577), e P "BEAM_ROW" 584 (r 277), e P "check_new_name" 593 (r 284), e P "check_course" 600 (r 291), e P "check_places" 608 (r 298), e P "check_weight" 615 (r 305), e P "check_count" 623 (r 312), e P "check_room" 635 (r 319), e P "check_on_board" 643 (r 326), e P "board_row" 651 (r 333), e P "board_or_trestle_row" 659 (r 340), e P "sack_row" 667 (r 347), e P "cord_row" 675 (r 354), e P "check_no_cord" 684 (r 361), e P "check_no_sack" 693 (r 368), e P "set_trestle" 704 (r 375), e P "lay_board" 716 (r 382), e P "take_away" 724 (r 389), e P "shift_along" 737 (r 396), e P "shift_sacks" 747 (r 403), e P "set_sack" 758 (r 410), e P "move_sack" 769 (r 417), e P "lift_sack" 777 (r 424), e P "tie_cord" 790 (r 431), e P "cut_cord" 798 (r 438)].toArray 68), [].toArray⟩
def ON (P : Params) : Obj := ⟨N, none, (.fields [(i (1) 0), (i (0) 0), (r 20), (i (5) 0), (i (0) 0), (r 27), (i (7) 0), (i (0) 0), (r 40), (i (9) 0), (i (0) 0), (r 52), (i (11) 0), (i (0) 0), (r 64), (i (13) 0), (i (0) 0), (r 76), (i (15) 0), (i (0) 0), (r 88), (i (17) 0), (i (0) 0), (r 100), (i (19) 0), (i (0) 0), (r 112), (i (21) 0), (i (0) 0), (r 124), (i (23) 0), (i (0) 0), (r 136), (i (25) 0), (i (0) 0), (r 148), (i (27) 0), (i (0) 0), (r 160), (i (29) 0), (i (0) 0), (r 172), (i (31) 0), (i (0) 0), (r 184), (i (33) 0), (i (0) 0), (r 196), (i (35) 0), (i (0) 0), (r 208), (i (37) 0), (i (0) 0), (r 220), (i (46) 0), (i (0) 0), (r 242), (i (49) 0), (i (0) 0), (r 247), (i (51) 0), (i (0) 0), (r 254), (i (53) 0), (i (0) 0), (r 261), (i (55) 0), (i (0) 0), (r 268), (i (57) 0), (i (0) 0), (r 275), (i (66) 0), (i (0) 0), (r 283), (i (72) 0), (i (0) 0), (r 290), (i (75) 0), (i (0) 0), (r 297), (i (78) 0), (i (0) 0), (r 304), (i (81) 0), (i (0) 0), (r 311), (i (84) 0), (i (0) 0), (r 318), (i (90) 0), (i (0) 0), (r 325), (i (93) 0), (i (0) 0), (r 332), (i (97) 0), (i (0) 0), (r 339), (i (103) 0), (i (0) 0), (r 346), (i (107) 0), (i (0) 0), (r 353), (i (111) 0), (i (0) 0), (r 360), (i (115) 0), (i (0) 0), (r 367), (i (119) 0), (i (0) 0), (r 374), (i (128) 0), (i (0) 0), (r 381), (i (138) 0), (i (0) 0), (r 388), (i (146) 0), (i (0) 0), (r 395), (i (159) 0), (i (0) 0), (r 402), (i (163) 0), (i (0) 0), (r 409), (i (169) 0), (i (0) 0), (r 416), (i (173) 0), (i (0) 0), (r 423), (i (176) 0), (i (0) 0), (r 430), (i (186) 0), (i (0) 0), (r 437)].toArray), [].toArray⟩
def xD : Ob := tE
def EE : Ob := nE
def xM (P : Params) : Obj := ⟨(T "tuple"), none, (.seq [(s "deed" 529)].toArray 0), [].toArray⟩
def yf : Ob := tE
def yT : Ob := gO "check_form" "check_form" (ak 26)
def yg (P : Params) : Obj := ⟨(T "code"), none, (.fields [(s "check_form" 526), (s "check_form" 527), (s "/claim/cut.py" 528), (i (46) 0), (i (1) 0), (i (0) 0), (i (0) 0), (i (3) 0), (r 237), (.bool true), (i (181) 0), (r 238), N, (r 239), (r 240), (r 241), (i (530) 0), (i (46) 0), (s "/claim/cut.py" 531)].toArray), [].toArray⟩
def xB : Ob := fO "check_form" "check_form" (ak 26) 3 "dunnage.deeds" 470 242 0
def yx : Ob := tE
def E5 : Ob := nE
def yK : Ob := gO "is_name" "is_name" (ak 27)
def yu (P : Params) : Obj := ⟨(T "code"), none, (.fields [(s "is_name" 533), (s "is_name" 534), (s "/claim/cut.py" 535), (i (49) 0), (i (1) 0), (i (0) 0), (i (0) 0), (i (3) 0), (r 244), (.bool true), (i (181) 0), (r 245), N, N, N, (r 246), (i (536) 0), (i (49) 0), (s "/claim/cut.py" 537)].toArray), [].toArray⟩
def zW : Ob := fO "is_name" "is_name" (ak 27) 3 "dunnage.deeds" 470 247 0
def BR : Ob := tE
def EY : Ob := nE
def AY (P : Params) : Obj := ⟨(T "tuple"), none, (.seq [(s "value" 542)].toArray 0), [].toArray⟩
def zY : Ob := tE
def z7 : Ob := gO "is_number" "is_number" (ak 28)
def Bg (P : Params) : Obj := ⟨(T "code"), none, (.fields [(s "is_number" 539), (s "is_number" 540), (s "/claim/cut.py" 541), (i (51) 0), (i (1) 0), (i (0) 0), (i (0) 0), (i (3) 0), (r 249), (.bool true), (i (181) 0), (r 250), N, (r 251), (r 252), (r 253), (i (543) 0), (i (51) 0), (s "/claim/cut.py" 544)].toArray), [].toArray⟩
def yW : Ob := fO "is_number" "is_number" (ak 28) 3 "dunnage.deeds" 470 254 0
def zH : Ob := tE
def Ej : Ob := nE
def Bu (P : Params) : Obj := ⟨(T "tuple"), none, (.seq [(s "value" 549)].toArray 0), [].toArray⟩
def Be : Ob := tE
def yh : Ob := gO "is_place" "is_place" (ak 29)
def By (P : Params) : Obj := ⟨(T "code"), none, (.fields [(s "is_place" 546), (s "is_place" 547), (s "/claim/cut.py" 548), (i (53) 0), (i (1) 0), (i (0) 0), (i (0) 0), (i (3) 0), (r 256), (.bool true), (i (181) 0), (r 257), N, (r 258), (r 259), (r 260), (i (550) 0), (i (53) 0), (s "/claim/cut.py" 551)].toArray), [].toArray⟩
def Av : Ob := fO "is_place" "is_place" (ak 29) 3 "dunnage.deeds" 470 261 0
def yH : Ob := tE
def E8 : Ob := nE
def xS (P : Params) : Obj := ⟨(T "tuple"), none, (.seq [(s "value" 556)].toArray 0), [].toArray⟩
def BL : Ob := tE
def xx : Ob := gO "is_course" "is_course" (ak 30)
def Bl (P : Params) : Obj := ⟨(T "code"), none, (.fields [(s "is_course" 553), (s "is_course" 554), (s "/claim/cut.py" 555), (i (55) 0), (i (1) 0), (i (0) 0), (i (0) 0), (i (3) 0), (r 263), (.bool true), (i (181) 0), (r 264), N, (r 265), (r 266), (r 267), (i (557) 0), (i (55) 0), (s "/claim/cut.py" 558)].toArray), [].toArray⟩
def AW : Ob := fO "is_course" "is_course" (ak 30) 3 "dunnage.deeds" 470 268 0
def zU : Ob := tE
def Fc : Ob := nE
def A7 (P : Params) : Obj := ⟨(T "tuple"), none, (.seq [(s "value" 563)].toArray 0), [].toArray⟩
def Ah : Ob := tE
def xR : Ob := gO "is_weight" "is_weight" (ak 31)
def yR (P : Params) : Obj := ⟨(T "code"), none, (.fields [(s "is_weight" 560), (s "is_weight" 561), (s "/claim/cut.py" 562), (i (57) 0), (i (1) 0), (i (0) 0), (i (0) 0), (i (3) 0), (r 270), (.bool true), (i (181) 0), (r 271), N, (r 272), (r 273), (r 274), (i (564) 0), (i (57) 0), (s "/claim/cut.py" 565)].toArray), [].toArray⟩
def xu : Ob := fO "is_weight" "is_weight" (ak 31) 3 "dunnage.deeds" 470 275 0
def yr (P : Params) : Obj := ⟨(T "tuple"), none, (.seq [(s "" 579), (i (10) 580), (i (-1000000) 582), (i (1000000) 583)].toArray 0), [].toArray⟩
def yq : Ob := tE
def Ei : Ob := nE
def zP (P : Params) : Obj := ⟨(T "tuple"), none, (.seq [(s "yard" 588), (s "name" 589), (s "rows" 590)].toArray 0), [].toArray⟩
def AE : Ob := tE
def yS : Ob := gO "check_new_name" "check_new_name" (ak 39)
def zE (P : Params) : Obj := ⟨(T "code"), none, (.fields [(s "check_new_name" 585), (s "check_new_name" 586), (s "/claim/cut.py" 587), (i (66) 0), (i (2) 0), (i (0) 0), (i (0) 0), (i (3) 0), (r 278), (.bool true), (i (181) 0), (r 279), N, (r 280), (r 281), (r 282), (i (591) 0), (i (66) 0), (s "/claim/cut.py" 592)].toArray), [].toArray⟩
def yJ : Ob := fO "check_new_name" "check_new_name" (ak 39) 3 "dunnage.yard" 567 283 0
def zK : Ob := tE
def Ft : Ob := nE
def Bv (P : Params) : Obj := ⟨(T "tuple"), none, (.seq [(s "course" 597)].toArray 0), [].toArray⟩
def za : Ob := tE
def yF : Ob := gO "check_course" "check_course" (ak 40)
def xo (P : Params) : Obj := ⟨(T "code"), none, (.fields [(s "check_course" 594), (s "check_course" 595), (s "/claim/cut.py" 596), (i (72) 0), (i (1) 0), (i (0) 0), (i (0) 0), (i (3) 0), (r 285), (.bool true), (i (181) 0), (r 286), N, (r 287), (r 288), (r 289), (i (598) 0), (i (72) 0), (s "/claim/cut.py" 599)].toArray), [].toArray⟩
def zu : Ob := fO "check_course" "check_course" (ak 40) 3 "dunnage.yard" 567 290 0
def zJ : Ob := tE
def FO : Ob := nE
def Ag (P : Params) : Obj := ⟨(T "tuple"), none, (.seq [(s "left" 604), (s "right" 605)].toArray 0), [].toArray⟩
def AX : Ob := tE
def BD : Ob := gO "check_places" "check_places" (ak 41)
def xV (P : Params) : Obj := ⟨(T "code"), none, (.fields [(s "check_places" 601), (s "check_places" 602), (s "/claim/cut.py" 603), (i (75) 0), (i (2) 0), (i (0) 0), (i (0) 0), (i (3) 0), (r 292), (.bool true), (i (181) 0), (r 293), N, (r 294), (r 295), (r 296), (i (606) 0), (i (75) 0), (s "/claim/cut.py" 607)].toArray), [].toArray⟩
def xq : Ob := fO "check_places" "check_places" (ak 41) 3 "dunnage.yard" 567 297 0
def zS : Ob := tE
def FT : Ob := nE
def Am (P : Params) : Obj := ⟨(T "tuple"), none, (.seq [(s "weight" 612)].toArray 0), [].toArray⟩
def zX : Ob := tE
def zL : Ob := gO "check_weight" "check_weight" (ak 42)
def zh (P : Params) : Obj := ⟨(T "code"), none, (.fields [(s "check_weight" 609), (s "check_weight" 610), (s "/claim/cut.py" 611), (i (78) 0), (i (1) 0), (i (0) 0), (i (0) 0), (i (3) 0), (r 299), (.bool true), (i (181) 0), (r 300), N, (r 301), (r 302), (r 303), (i (613) 0), (i (78) 0), (s "/claim/cut.py" 614)].toArray), [].toArray⟩
def zF : Ob := fO "check_weight" "check_weight" (ak 42) 3 "dunnage.yard" 567 304 0
def ya : Ob := tE
def Ew : Ob := nE
def zf (P : Params) : Obj := ⟨(T "tuple"), none, (.seq [(s "rows" 619), (s "most" 620)].toArray 0), [].toArray⟩
def zQ : Ob := tE
def Bx : Ob := gO "check_count" "check_count" (ak 43)
def BC (P : Params) : Obj := ⟨(T "code"), none, (.fields [(s "check_count" 616), (s "check_count" 617), (s "/claim/cut.py" 618), (i (81) 0), (i (2) 0), (i (0) 0), (i (0) 0), (i (3) 0), (r 306), (.bool true), (i (181) 0), (r 307), N, (r 308), (r 309), (r 310), (i (621) 0), (i (81) 0), (s "/claim/cut.py" 622)].toArray), [].toArray⟩
def yL : Ob := fO "check_count" "check_count" (ak 43) 3 "dunnage.yard" 567 311 0
def AO : Ob := tE
def FD : Ob := nE
def xH (P : Params) : Obj := ⟨(T "tuple"), none, (.seq [(s "yard" 627), (s "name" 628), (s "course" 629), (s "left" 630), (s "right" 631), (s "row" 632)].toArray 0), [].toArray⟩
def yc : Ob := tE
def zN : Ob := gO "check_room" "check_room" (ak 44)
def AH (P : Params) : Obj := ⟨(T "code"), none, (.fields [(s "check_room" 624), (s "check_room" 625), (s "/claim/cut.py" 626), (i (84) 0), (i (5) 0), (i (0) 0), (i (0) 0), (i (3) 0), (r 313), (.bool true), (i (181) 0), (r 314), N, (r 315), (r 316), (r 317), (i (633) 0), (i (84) 0), (s "/claim/cut.py" 634)].toArray), [].toArray⟩
def Ak : Ob := fO "check_room" "check_room" (ak 44) 3 "dunnage.yard" 567 318 0
def yP : Ob := tE
def ED : Ob := nE
def Bw (P : Params) : Obj := ⟨(T "tuple"), none, (.seq [(s "row" 639), (s "place" 640)].toArray 0), [].toArray⟩
def A6 : Ob := tE
def Ai : Ob := gO "check_on_board" "check_on_board" (ak 45)
def ye (P : Params) : Obj := ⟨(T "code"), none, (.fields [(s "check_on_board" 636), (s "check_on_board" 637), (s "/claim/cut.py" 638), (i (90) 0), (i (2) 0), (i (0) 0), (i (0) 0), (i (3) 0), (r 320), (.bool true), (i (181) 0), (r 321), N, (r 322), (r 323), (r 324), (i (641) 0), (i (90) 0), (s "/claim/cut.py" 642)].toArray), [].toArray⟩
def yE : Ob := fO "check_on_board" "check_on_board" (ak 45) 3 "dunnage.yard" 567 325 0
def Aw : Ob := tE
def Ed : Ob := nE
def BP (P : Params) : Obj := ⟨(T "tuple"), none, (.seq [(s "yard" 647), (s "name" 648)].toArray 0), [].toArray⟩
def zM : Ob := tE
def xY : Ob := gO "board_row" "board_row" (ak 46)
def yZ (P : Params) : Obj := ⟨(T "code"), none, (.fields [(s "board_row" 644), (s "board_row" 645), (s "/claim/cut.py" 646), (i (93) 0), (i (2) 0), (i (0) 0), (i (0) 0), (i (3) 0), (r 327), (.bool true), (i (181) 0), (r 328), N, (r 329), (r 330), (r 331), (i (649) 0), (i (93) 0), (s "/claim/cut.py" 650)].toArray), [].toArray⟩
def yt : Ob := fO "board_row" "board_row" (ak 46) 3 "dunnage.yard" 567 332 0
def xT : Ob := tE
def EB : Ob := nE
def yC (P : Params) : Obj := ⟨(T "tuple"), none, (.seq [(s "yard" 655), (s "name" 656)].toArray 0), [].toArray⟩
def z0 : Ob := tE
def y9 : Ob := gO "board_or_trestle_row" "board_or_trestle_row" (ak 47)
def Bf (P : Params) : Obj := ⟨(T "code"), none, (.fields [(s "board_or_trestle_row" 652), (s "board_or_trestle_row" 653), (s "/claim/cut.py" 654), (i (97) 0), (i (2) 0), (i (0) 0), (i (0) 0), (i (3) 0), (r 334), (.bool true), (i (181) 0), (r 335), N, (r 336), (r 337), (r 338), (i (657) 0), (i (97) 0), (s "/claim/cut.py" 658)].toArray), [].toArray⟩
def Ax : Ob := fO "board_or_trestle_row" "board_or_trestle_row" (ak 47) 3 "dunnage.yard" 567 339 0
def yG : Ob := tE
def Eu : Ob := nE
def Bc (P : Params) : Obj := ⟨(T "tuple"), none, (.seq [(s "yard" 663), (s "name" 664)].toArray 0), [].toArray⟩
def z8 : Ob := tE
def Aa : Ob := gO "sack_row" "sack_row" (ak 48)
def Br (P : Params) : Obj := ⟨(T "code"), none, (.fields [(s "sack_row" 660), (s "sack_row" 661), (s "/claim/cut.py" 662), (i (103) 0), (i (2) 0), (i (0) 0), (i (0) 0), (i (3) 0), (r 341), (.bool true), (i (181) 0), (r 342), N, (r 343), (r 344), (r 345), (i (665) 0), (i (103) 0), (s "/claim/cut.py" 666)].toArray), [].toArray⟩
def xJ : Ob := fO "sack_row" "sack_row" (ak 48) 3 "dunnage.yard" 567 346 0
def yV : Ob := tE
def EK : Ob := nE
def Bq (P : Params) : Obj := ⟨(T "tuple"), none, (.seq [(s "yard" 671), (s "name" 672)].toArray 0), [].toArray⟩
def yp : Ob := tE
def yM : Ob := gO "cord_row" "cord_row" (ak 49)
def yY (P : Params) : Obj := ⟨(T "code"), none, (.fields [(s "cord_row" 668), (s "cord_row" 669), (s "/claim/cut.py" 670), (i (107) 0), (i (2) 0), (i (0) 0), (i (0) 0), (i (3) 0), (r 348), (.bool true), (i (181) 0), (r 349), N, (r 350), (r 351), (r 352), (i (673) 0), (i (107) 0), (s "/claim/cut.py" 674)].toArray), [].toArray⟩
def Bk : Ob := fO "cord_row" "cord_row" (ak 49) 3 "dunnage.yard" 567 353 0
def xy : Ob := tE
def Fb : Ob := nE
def zg (P : Params) : Obj := ⟨(T "tuple"), none, (.seq [(s "yard" 679), (s "name" 680), (s "row" 681)].toArray 0), [].toArray⟩
def AU : Ob := tE
def yz : Ob := gO "check_no_cord" "check_no_cord" (ak 50)
def zm (P : Params) : Obj := ⟨(T "code"), none, (.fields [(s "check_no_cord" 676), (s "check_no_cord" 677), (s "/claim/cut.py" 678), (i (111) 0), (i (2) 0), (i (0) 0), (i (0) 0), (i (3) 0), (r 355), (.bool true), (i (181) 0), (r 356), N, (r 357), (r 358), (r 359), (i (682) 0), (i (111) 0), (s "/claim/cut.py" 683)].toArray), [].toArray⟩
def BE : Ob := fO "check_no_cord" "check_no_cord" (ak 50) 3 "dunnage.yard" 567 360 0
def Ao : Ob := tE
def Eg : Ob := nE
def yo (P : Params) : Obj := ⟨(T "tuple"), none, (.seq [(s "yard" 688), (s "name" 689), (s "row" 690)].toArray 0), [].toArray⟩
def yX : Ob := tE
def Af : Ob := gO "check_no_sack" "check_no_sack" (ak 51)
def yb (P : Params) : Obj := ⟨(T "code"), none, (.fields [(s "check_no_sack" 685), (s "check_no_sack" 686), (s "/claim/cut.py" 687), (i (115) 0), (i (2) 0), (i (0) 0), (i (0) 0), (i (3) 0), (r 362), (.bool true), (i (181) 0), (r 363), N, (r 364), (r 365), (r 366), (i (691) 0), (i (115) 0), (s "/claim/cut.py" 692)].toArray), [].toArray⟩
def AV : Ob := fO "check_no_sack" "check_no_sack" (ak 51) 3 "dunnage.yard" 567 367 0
def yI : Ob := tE
def ET : Ob := nE
def zO (P : Params) : Obj := ⟨(T "tuple"), none, (.seq [(s "yard" 697), (s "name" 698), (s "course" 699), (s "left" 700), (s "right" 701)].toArray 0), [].toArray⟩
def A5 : Ob := tE
def yy : Ob := gO "set_trestle" "set_trestle" (ak 52)
def A9 (P : Params) : Obj := ⟨(T "code"), none, (.fields [(s "set_trestle" 694), (s "set_trestle" 695), (s "/claim/cut.py" 696), (i (119) 0), (i (5) 0), (i (0) 0), (i (0) 0), (i (3) 0), (r 369), (.bool true), (i (181) 0), (r 370), N, (r 371), (r 372), (r 373), (i (702) 0), (i (119) 0), (s "/claim/cut.py" 703)].toArray), [].toArray⟩
def xU : Ob := fO "set_trestle" "set_trestle" (ak 52) 3 "dunnage.yard" 567 374 0
def A4 : Ob := tE
def FJ : Ob := nE
def zD (P : Params) : Obj := ⟨(T "tuple"), none, (.seq [(s "yard" 708), (s "name" 709), (s "course" 710), (s "left" 711), (s "right" 712), (s "weight" 713)].toArray 0), [].toArray⟩
def yj : Ob := tE
def xZ : Ob := gO "lay_board" "lay_board" (ak 53)
def zp (P : Params) : Obj := ⟨(T "code"), none, (.fields [(s "lay_board" 705), (s "lay_board" 706), (s "/claim/cut.py" 707), (i (128) 0), (i (6) 0), (i (0) 0), (i (0) 0), (i (3) 0), (r 376), (.bool true), (i (181) 0), (r 377), N, (r 378), (r 379), (r 380), (i (714) 0), (i (128) 0), (s "/claim/cut.py" 715)].toArray), [].toArray⟩
def xE : Ob := fO "lay_board" "lay_board" (ak 53) 3 "dunnage.yard" 567 381 0
def BJ : Ob := tE
def FQ : Ob := nE
def A8 (P : Params) : Obj := ⟨(T "tuple"), none, (.seq [(s "yard" 720), (s "name" 721)].toArray 0), [].toArray⟩
def zZ : Ob := tE
def Ac : Ob := gO "take_away" "take_away" (ak 54)
def BG (P : Params) : Obj := ⟨(T "code"), none, (.fields [(s "take_away" 717), (s "take_away" 718), (s "/claim/cut.py" 719), (i (138) 0), (i (2) 0), (i (0) 0), (i (0) 0), (i (3) 0), (r 383), (.bool true), (i (181) 0), (r 384), N, (r 385), (r 386), (r 387), (i (722) 0), (i (138) 0), (s "/claim/cut.py" 723)].toArray), [].toArray⟩
def yv : Ob := fO "take_away" "take_away" (ak 54) 3 "dunnage.yard" 567 388 0
def BI : Ob := tE
def FF : Ob := nE
def AL (P : Params) : Obj := ⟨(T "tuple"), none, (.seq [(s "yard" 728), (s "name" 729), (s "by" 730), (s "row" 731), (s "course" 732), (s "left" 733), (s "right" 734)].toArray 0), [].toArray⟩
def Bj : Ob := tE
def BA : Ob := gO "shift_along" "shift_along" (ak 55)
def AK (P : Params) : Obj := ⟨(T "code"), none, (.fields [(s "shift_along" 725), (s "shift_along" 726), (s "/claim/cut.py" 727), (i (146) 0), (i (3) 0), (i (0) 0), (i (0) 0), (i (3) 0), (r 390), (.bool true), (i (181) 0), (r 391), N, (r 392), (r 393), (r 394), (i (735) 0), (i (146) 0), (s "/claim/cut.py" 736)].toArray), [].toArray⟩
def xF : Ob := fO "shift_along" "shift_along" (ak 55) 3 "dunnage.yard" 567 395 0
def Ab : Ob := tE
def Fv : Ob := nE
def Ar (P : Params) : Obj := ⟨(T "tuple"), none, (.seq [(s "yard" 741), (s "board" 742), (s "by" 743), (s "row" 744)].toArray 0), [].toArray⟩
def BO : Ob := tE
def xA : Ob := gO "shift_sacks" "shift_sacks" (ak 56)
def Aq (P : Params) : Obj := ⟨(T "code"), none, (.fields [(s "shift_sacks" 738), (s "shift_sacks" 739), (s "/claim/cut.py" 740), (i (159) 0), (i (3) 0), (i (0) 0), (i (0) 0), (i (3) 0), (r 397), (.bool true), (i (181) 0), (r 398), N, (r 399), (r 400), (r 401), (i (745) 0), (i (159) 0), (s "/claim/cut.py" 746)].toArray), [].toArray⟩
def AR : Ob := fO "shift_sacks" "shift_sacks" (ak 56) 3 "dunnage.yard" 567 402 0
def zb : Ob := tE
def EV : Ob := nE
def xC (P : Params) : Obj := ⟨(T "tuple"), none, (.seq [(s "yard" 751), (s "name" 752), (s "board" 753), (s "place" 754), (s "weight" 755)].toArray 0), [].toArray⟩
def yN : Ob := tE
def xQ : Ob := gO "set_sack" "set_sack" (ak 57)
def z6 (P : Params) : Obj := ⟨(T "code"), none, (.fields [(s "set_sack" 748), (s "set_sack" 749), (s "/claim/cut.py" 750), (i (163) 0), (i (5) 0), (i (0) 0), (i (0) 0), (i (3) 0), (r 404), (.bool true), (i (181) 0), (r 405), N, (r 406), (r 407), (r 408), (i (756) 0), (i (163) 0), (s "/claim/cut.py" 757)].toArray), [].toArray⟩
def zB : Ob := fO "set_sack" "set_sack" (ak 57) 3 "dunnage.yard" 567 409 0
def zR : Ob := tE
def Fl : Ob := nE
def xG (P : Params) : Obj := ⟨(T "tuple"), none, (.seq [(s "yard" 762), (s "name" 763), (s "board" 764), (s "place" 765), (s "row" 766)].toArray 0), [].toArray⟩
def AF : Ob := tE
def BQ : Ob := gO "move_sack" "move_sack" (ak 58)
def zA (P : Params) : Obj := ⟨(T "code"), none, (.fields [(s "move_sack" 759), (s "move_sack" 760), (s "/claim/cut.py" 761), (i (169) 0), (i (4) 0), (i (0) 0), (i (0) 0), (i (3) 0), (r 411), (.bool true), (i (181) 0), (r 412), N, (r 413), (r 414), (r 415), (i (767) 0), (i (169) 0), (s "/claim/cut.py" 768)].toArray), [].toArray⟩
def Bs : Ob := fO "move_sack" "move_sack" (ak 58) 3 "dunnage.yard" 567 416 0
def zw : Ob := tE
def FN : Ob := nE
def A3 (P : Params) : Obj := ⟨(T "tuple"), none, (.seq [(s "yard" 773), (s "name" 774)].toArray 0), [].toArray⟩
def AD : Ob := tE
def Bm : Ob := gO "lift_sack" "lift_sack" (ak 59)
def zz (P : Params) : Obj := ⟨(T "code"), none, (.fields [(s "lift_sack" 770), (s "lift_sack" 771), (s "/claim/cut.py" 772), (i (173) 0), (i (2) 0), (i (0) 0), (i (0) 0), (i (3) 0), (r 418), (.bool true), (i (181) 0), (r 419), N, (r 420), (r 421), (r 422), (i (775) 0), (i (173) 0), (s "/claim/cut.py" 776)].toArray), [].toArray⟩
def zV : Ob := fO "lift_sack" "lift_sack" (ak 59) 3 "dunnage.yard" 567 423 0
def AQ : Ob := tE
def Fx : Ob := nE
def AA (P : Params) : Obj := ⟨(T "tuple"), none, (.seq [(s "yard" 781), (s "name" 782), (s "upper" 783), (s "lower" 784), (s "place" 785), (s "upper_row" 786), (s "lower_row" 787)].toArray 0), [].toArray⟩
def Ad : Ob := tE
def yi : Ob := gO "tie_cord" "tie_cord" (ak 60)
def BK (P : Params) : Obj := ⟨(T "code"), none, (.fields [(s "tie_cord" 778), (s "tie_cord" 779), (s "/claim/cut.py" 780), (i (176) 0), (i (5) 0), (i (0) 0), (i (0) 0), (i (3) 0), (r 425), (.bool true), (i (181) 0), (r 426), N, (r 427), (r 428), (r 429), (i (788) 0), (i (176) 0), (s "/claim/cut.py" 789)].toArray), [].toArray⟩
def Bo : Ob := fO "tie_cord" "tie_cord" (ak 60) 3 "dunnage.yard" 567 430 0
def xP : Ob := tE
def Et : Ob := nE
def xr (P : Params) : Obj := ⟨(T "tuple"), none, (.seq [(s "yard" 794), (s "name" 795)].toArray 0), [].toArray⟩
def zC : Ob := tE
def Ba : Ob := gO "cut_cord" "cut_cord" (ak 61)
def yU (P : Params) : Obj := ⟨(T "code"), none, (.fields [(s "cut_cord" 791), (s "cut_cord" 792), (s "/claim/cut.py" 793), (i (186) 0), (i (2) 0), (i (0) 0), (i (0) 0), (i (3) 0), (r 432), (.bool true), (i (181) 0), (r 433), N, (r 434), (r 435), (r 436), (i (796) 0), (i (186) 0), (s "/claim/cut.py" 797)].toArray), [].toArray⟩
def yd : Ob := fO "cut_cord" "cut_cord" (ak 61) 3 "dunnage.yard" 567 437 0
def UH (P : Params) : PySem.W.BT := (n (PySem.W.boot_o_0 P) (n (PySem.W.boot_o_1 P) (n (Vr P) (n (PySem.W.boot_o_7 P) (n (wG P) (n (w5 P) (n (D6 P) (n (oN P) (y (yW P)) (y (BJ P))) (n (vd P) (y (Ak P)) z)) (n (C0 P) (n (rf P) (y (Bv P)) (y (BQ P))) (n (ng P) (y (yp P)) z))) (n (CZ P) (n (vU P) (n (uG P) (y (Fc P)) (y (Ar P))) (n (uL P) (y (EB P)) z)) (n (uW P) (n (oK P) (y (zL P)) (y (Bo P))) (n (xM P) (y (yb P)) z)))) (n (Ds P) (n (BW P) (n (DS P) (n (uX P) (y (yH P)) (y (FF P))) (n (pA P) (y (Aw P)) z)) (n (m6 P) (n (sH P) (y (AX P)) (y (zz P))) (n (ug P) (y (yz P)) z))) (n (vQ P) (n (CH P) (n (nK P) (y (Ei P)) (y (yN P))) (n (uM P) (y (Bc P)) z)) (n (qT P) (n (uu P) (y (BC P)) z) (n (yu P) (y (xU P)) z))))) (n (wZ P) (n (xj P) (n (D5 P) (n (vS P) (n (uz P) (y (Be P)) (y (Ac P))) (n (tG P) (y (A6 P)) z)) (n (BY P) (n (oO P) (y (zu P)) (y (FN P))) (n (uP P) (y (xy P)) z))) (n (Dj P) (n (Dc P) (n (ux P) (y (yR P)) (y (AR P))) (n (o6 P) (y (Bf P)) z)) (n (nX P) (n (uQ P) (y (Ew P)) (y (zC P))) (n (xB P) (y (zO P)) z)))) (n (BZ P) (n (wA P) (n (CV P) (n (nv P) (y (xx P)) (y (AK P))) (n (uH P) (y (xY P)) z)) (n (q8 P) (n (u7 P) (y (zS P)) (y (AA P))) (n (rH P) (y (Eg P)) z))) (n (Cs P) (n (w9 P) (n (tU P) (y (zE P)) (y (zR P))) (n (t9 P) (y (xJ P)) z)) (n (rg P) (n (nJ P) (y (xH P)) z) (n (AY P) (y (yj P)) z)))))) (n (PySem.W.boot_o_5 P) (n (PySem.W.boot_o_9 P) (n (vR P) (n (BU P) (n (DV P) (n (qL P) (y (Ej P)) (y (A8 P))) (n (rY P) (y (ED P)) z)) (n (CP P) (n (u0 P) (y (yF P)) (y (Bs P))) (n (uC P) (y (yY P)) z))) (n (DF P) (n (C7 P) (n (uq P) (y (Ah P)) (y (xA P))) (n (tN P) (y (z0 P)) z)) (n (qN P) (n (rQ P) (y (zF P)) (y (Et P))) (n (yT P) (y (yI P)) z)))) (n (Eb P) (n (Df P) (n (DQ P) (n (tL P) (y (xS P)) (y (Bj P))) (n (rN P) (y (BP P)) z)) (n (qP P) (n (uK P) (y (xV P)) (y (AQ P))) (n (rB P) (y (BE P)) z))) (n (B5 P) (n (Dz P) (n (qV P) (y (AE P)) (y (z6 P))) (n (sN P) (y (Aa P)) z)) (n (uy P) (n (sC P) (y (AO P)) z) (n (BR P) (y (FJ P)) z))))) (n (vZ P) (n (vP P) (n (C4 P) (n (Ct P) (n (tK P) (y (By P)) (y (yv P))) (n (rT P) (y (ye P)) z)) (n (qK P) (n (rC P) (y (FO P)) (y (AD P))) (n (vc P) (y (zg P)) z))) (n (D7 P) (n (D8 P) (n (ue P) (y (yr P)) (y (EV P))) (n (t8 P) (y (yG P)) z)) (n (sf P) (n (rL P) (y (zQ P)) (y (yU P))) (n (E5 P) (y (yy P)) z)))) (n (wY P) (n (Cg P) (n (CM P) (n (uf P) (y (AW P)) (y (Ab P))) (n (tP P) (y (yt P)) z)) (n (qU P) (n (rR P) (y (Am P)) (y (yi P))) (n (xD P) (y (yX P)) z))) (n (Cw P) (n (BV P) (n (sY P) (y (zK P)) (y (xG P))) (n (sJ P) (y (EK P)) z)) (n (sW P) (n (uo P) (y (zN P)) z) (n (z7 P) (y (zp P)) z))))))) (n (PySem.W.boot_o_2 P) (n (PySem.W.boot_o_4 P) (n (PySem.W.boot_o_8 P) (n (DI P) (n (vO P) (n (Dd P) (n (oj P) (y (zH P)) (y (FQ P))) (n (sZ P) (y (yP P)) z)) (n (C9 P) (n (rV P) (y (za P)) (y (zA P))) (n (oY P) (y (yM P)) z))) (n (CF P) (n (wD P) (n (vh P) (y (A7 P)) (y (BO P))) (n (qO P) (y (yC P)) z)) (n (rO P) (n (oX P) (y (zh P)) (y (xP P))) (n (yf P) (y (AV P)) z)))) (n (DM P) (n (Ck P) (n (Co P) (n (sG P) (y (E8 P)) (y (AL P))) (n (oZ P) (y (Ed P)) z)) (n (ni P) (n (ri P) (y (BD P)) (y (zV P))) (n (uU P) (y (zm P)) z))) (n (wK P) (n (B9 P) (n (o9 P) (y (zP P)) (y (xQ P))) (n (rP P) (y (z8 P)) z)) (n (tZ P) (n (sE P) (y (yL P)) z) (n (zW P) (y (A4 P)) z))))) (n (ON P) (n (wj P) (n (C6 P) (n (xg P) (n (r9 P) (y (yh P)) (y (BG P))) (n (rF P) (y (Ai P)) z)) (n (um P) (n (nU P) (y (zJ P)) (y (A3 P))) (n (uT P) (y (Fb P)) z))) (n (DZ P) (n (DG P) (n (tw P) (y (xu P)) (y (zb P))) (n (pB P) (y (Ax P)) z)) (n (pC P) (n (qX P) (y (zf P)) (y (Ba P))) (n (yx P) (y (A5 P)) z)))) (n (Dw P) (n (vN P) (n (Cj P) (n (nQ P) (y (Bl P)) (y (xF P))) (n (rM P) (y (yZ P)) z)) (n (tM P) (n (tF P) (y (FT P)) (y (Ad P))) (n (rJ P) (y (yo P)) z))) (n (C1 P) (n (we P) (n (rZ P) (y (yJ P)) (y (Fl P))) (n (q6 P) (y (yV P)) z)) (n (uI P) (n (ou P) (y (yc P)) z) (n (zY P) (y (xZ P)) z)))))) (n (PySem.W.boot_o_6 P) (n (PySem.W.boot_o_10 P) (n (wH P) (n (Cu P) (n (wo P) (n (rA P) (y (Bu P)) (y (zZ P))) (n (u9 P) (y (Bw P)) z)) (n (CQ P) (n (oQ P) (y (xo P)) (y (zw P))) (n (sM P) (y (Bk P)) z))) (n (C2 P) (n (CI P) (n (uA P) (y (xR P)) (y (Aq P))) (n (oU P) (y (y9 P)) z)) (n (oE P) (n (uR P) (y (ya P)) (y (xr P))) (n (yg P) (y (ET P)) z)))) (n (C5 P) (n (wI P) (n (DE P) (n (oF P) (y (BL P)) (y (BA P))) (n (tT P) (y (zM P)) z)) (n (sL P) (n (u6 P) (y (xq P)) (y (Fx P))) (n (sO P) (y (Ao P)) z))) (n (D4 P) (n (wV P) (n (qM P) (y (yS P)) (y (zB P))) (n (uJ P) (y (Br P)) z)) (n (tD P) (n (oV P) (y (FD P)) z) (n (EY P) (y (zD P)) z))))) (n (wL P) (n (Ci P) (n (DP P) (n (Cq P) (n (sP P) (y (Av P)) (y (BI P))) (n (m9 P) (y (yE P)) z)) (n (nk P) (n (rX P) (y (Ag P)) (y (Bm P))) (n (tQ P) (y (AU P)) z))) (n (xm P) (n (CN P) (n (nH P) (y (yq P)) (y (xC P))) (n (rW P) (y (Eu P)) z)) (n (uE P) (n (ua P) (y (Bx P)) (y (yd P))) (n (yK P) (y (A9 P)) z)))) (n (wJ P) (n (DJ P) (n (wh P) (n (rS P) (y (zU P)) (y (Fv P))) (n (sj P) (y (xT P)) z)) (n (qY P) (n (nP P) (y (zX P)) (y (BK P))) (n (EE P) (y (Af P)) z))) (n (Cz P) (n (DU P) (n (tW P) (y (Ft P)) (y (AF P))) (n (nG P) (y (Bq P)) z)) (n (nO P) (n (q9 P) (y (AH P)) z) (n (Bg P) (y (xE P)) z))))))))
def Vg (P : Params) : Obj := ⟨(T "dict"), none, (.dict [e P "__name__" 165 (s "dunnage.yard" 567), e P "__doc__" 166 N, e P "__package__" 167 N, e P "__loader__" 168 (B "__main__.__loader__#opaque"), e P "__spec__" 169 N, e P "__annotations__" 170 (r 6), e P "__builtins__" 171 (r 4), e P "__file__" 173 (s "/claim/cut.py" 172), e P "__cached__" 174 N, e P "_wall" 193 (r 21), e P "YardError" 213 (r 31), e P "BadName" 229 (r 44), e P "Taken" 245 (r 56), e P "BadCourse" 261 (r 68), e P "BadPlace" 277 (r 80), e P "BadWeight" 293 (r 92), e P "Full" 309 (r 104), e P "Crowded" 325 (r 116), e P "NoThing" 341 (r 128), e P "InUse" 357 (r 140), e P "NoSack" 373 (r 152), e P "NoCord" 389 (r 164), e P "BadCord" 405 (r 176), e P "BadDeed" 421 (r 188), e P "BadDay" 437 (r 200), e P "NoEntry" 453 (r 212), e P "NothingThere" 469 (r 224), e P "LETTERS" 473 (s "abcdefghijklmnopqrstuvwxyz" 472), e P "LONGEST_NAME" 475 (i (8) 474), e P "FARTHEST_PLACE" 477 (i (1000000) 476), e P "HIGHEST_COURSE" 479 (i (9) 478), e P "GREATEST_WEIGHT" 481 (i (1000000000) 480), e P "DEED_THINGS" 525 (r 227), e P "check_form" 532 (r 243), e P "is_name" 538 (r 248), e P "is_number" 545 (r 255), e P "is_place" 552 (r 262), e P "is_course" 559 (r 269), e P "is_weight" 566 (r 276), e P "MOST_BOARDS" 570 (i (6) 569), e P "MOST_TRESTLES" 572 (i (6) 571), e P "MOST_SACKS" 574 (i (8) 573), e P "MOST_CORDS" 576 (i (4) 575), e P "BEAM" 578 (s "" 577), e P "BEAM_ROW" 584 (r 277), e P "check_new_name" 593 (r 284), e P "check_course" 600 (r 291), e P "check_places" 608 (r 298), e P "check_weight" 615 (r 305), e P "check_count" 623 (r 312), e P "check_room" 635 (r 319), e P "check_on_board" 643 (r 326), e P "board_row" 651 (r 333), e P "board_or_trestle_row" 659 (r 340), e P "sack_row" 667 (r 347), e P "cord_row" 675 (r 354), e P "check_no_cord" 684 (r 361), e P "check_no_sack" 693 (r 368), e P "set_trestle" 704 (r 375), e P "lay_board" 716 (r 382), e P "take_away" 724 (r 389), e P "shift_along" 737 (r 396), e P "shift_sacks" 747 (r 403), e P "set_sack" 758 (r 410), e P "move_sack" 769 (r 417), e P "lift_sack" 777 (r 424), e P "tie_cord" 790 (r 431), e P "cut_cord" 798 (r 438), e P "ACTIONS" 817 (r 439)].toArray 69), [].toArray⟩
def EC (P : Params) : Obj := ⟨(T "dict"), none, (.dict [e P "trestle" 799 (r 375), e P "board" 800 (r 382), e P "away" 801 (r 389), e P "along" 802 (r 396), e P "sack" 803 (r 410), e P "move" 804 (r 417), e P "lift" 805 (r 424), e P "cord" 806 (r 431), e P "cut" 807 (r 438)].toArray 9), [].toArray⟩
def UN (P : Params) : PySem.W.BT := (n (PySem.W.boot_o_0 P) (n (PySem.W.boot_o_1 P) (n (Vg P) (n (PySem.W.boot_o_7 P) (n (wG P) (n (w5 P) (n (D6 P) (n (oN P) (y (yW P)) (y (BJ P))) (n (vd P) (y (Ak P)) z)) (n (C0 P) (n (rf P) (y (Bv P)) (y (BQ P))) (n (ng P) (y (yp P)) z))) (n (CZ P) (n (vU P) (n (uG P) (y (Fc P)) (y (Ar P))) (n (uL P) (y (EB P)) z)) (n (uW P) (n (oK P) (y (zL P)) (y (Bo P))) (n (xM P) (y (yb P)) z)))) (n (Ds P) (n (BW P) (n (DS P) (n (uX P) (y (yH P)) (y (FF P))) (n (pA P) (y (Aw P)) z)) (n (m6 P) (n (sH P) (y (AX P)) (y (zz P))) (n (ug P) (y (yz P)) z))) (n (vQ P) (n (CH P) (n (nK P) (y (Ei P)) (y (yN P))) (n (uM P) (y (Bc P)) z)) (n (qT P) (n (uu P) (y (BC P)) (y (EC P))) (n (yu P) (y (xU P)) z))))) (n (wZ P) (n (xj P) (n (D5 P) (n (vS P) (n (uz P) (y (Be P)) (y (Ac P))) (n (tG P) (y (A6 P)) z)) (n (BY P) (n (oO P) (y (zu P)) (y (FN P))) (n (uP P) (y (xy P)) z))) (n (Dj P) (n (Dc P) (n (ux P) (y (yR P)) (y (AR P))) (n (o6 P) (y (Bf P)) z)) (n (nX P) (n (uQ P) (y (Ew P)) (y (zC P))) (n (xB P) (y (zO P)) z)))) (n (BZ P) (n (wA P) (n (CV P) (n (nv P) (y (xx P)) (y (AK P))) (n (uH P) (y (xY P)) z)) (n (q8 P) (n (u7 P) (y (zS P)) (y (AA P))) (n (rH P) (y (Eg P)) z))) (n (Cs P) (n (w9 P) (n (tU P) (y (zE P)) (y (zR P))) (n (t9 P) (y (xJ P)) z)) (n (rg P) (n (nJ P) (y (xH P)) z) (n (AY P) (y (yj P)) z)))))) (n (PySem.W.boot_o_5 P) (n (PySem.W.boot_o_9 P) (n (vR P) (n (BU P) (n (DV P) (n (qL P) (y (Ej P)) (y (A8 P))) (n (rY P) (y (ED P)) z)) (n (CP P) (n (u0 P) (y (yF P)) (y (Bs P))) (n (uC P) (y (yY P)) z))) (n (DF P) (n (C7 P) (n (uq P) (y (Ah P)) (y (xA P))) (n (tN P) (y (z0 P)) z)) (n (qN P) (n (rQ P) (y (zF P)) (y (Et P))) (n (yT P) (y (yI P)) z)))) (n (Eb P) (n (Df P) (n (DQ P) (n (tL P) (y (xS P)) (y (Bj P))) (n (rN P) (y (BP P)) z)) (n (qP P) (n (uK P) (y (xV P)) (y (AQ P))) (n (rB P) (y (BE P)) z))) (n (B5 P) (n (Dz P) (n (qV P) (y (AE P)) (y (z6 P))) (n (sN P) (y (Aa P)) z)) (n (uy P) (n (sC P) (y (AO P)) z) (n (BR P) (y (FJ P)) z))))) (n (vZ P) (n (vP P) (n (C4 P) (n (Ct P) (n (tK P) (y (By P)) (y (yv P))) (n (rT P) (y (ye P)) z)) (n (qK P) (n (rC P) (y (FO P)) (y (AD P))) (n (vc P) (y (zg P)) z))) (n (D7 P) (n (D8 P) (n (ue P) (y (yr P)) (y (EV P))) (n (t8 P) (y (yG P)) z)) (n (sf P) (n (rL P) (y (zQ P)) (y (yU P))) (n (E5 P) (y (yy P)) z)))) (n (wY P) (n (Cg P) (n (CM P) (n (uf P) (y (AW P)) (y (Ab P))) (n (tP P) (y (yt P)) z)) (n (qU P) (n (rR P) (y (Am P)) (y (yi P))) (n (xD P) (y (yX P)) z))) (n (Cw P) (n (BV P) (n (sY P) (y (zK P)) (y (xG P))) (n (sJ P) (y (EK P)) z)) (n (sW P) (n (uo P) (y (zN P)) z) (n (z7 P) (y (zp P)) z))))))) (n (PySem.W.boot_o_2 P) (n (PySem.W.boot_o_4 P) (n (PySem.W.boot_o_8 P) (n (DI P) (n (vO P) (n (Dd P) (n (oj P) (y (zH P)) (y (FQ P))) (n (sZ P) (y (yP P)) z)) (n (C9 P) (n (rV P) (y (za P)) (y (zA P))) (n (oY P) (y (yM P)) z))) (n (CF P) (n (wD P) (n (vh P) (y (A7 P)) (y (BO P))) (n (qO P) (y (yC P)) z)) (n (rO P) (n (oX P) (y (zh P)) (y (xP P))) (n (yf P) (y (AV P)) z)))) (n (DM P) (n (Ck P) (n (Co P) (n (sG P) (y (E8 P)) (y (AL P))) (n (oZ P) (y (Ed P)) z)) (n (ni P) (n (ri P) (y (BD P)) (y (zV P))) (n (uU P) (y (zm P)) z))) (n (wK P) (n (B9 P) (n (o9 P) (y (zP P)) (y (xQ P))) (n (rP P) (y (z8 P)) z)) (n (tZ P) (n (sE P) (y (yL P)) z) (n (zW P) (y (A4 P)) z))))) (n (ON P) (n (wj P) (n (C6 P) (n (xg P) (n (r9 P) (y (yh P)) (y (BG P))) (n (rF P) (y (Ai P)) z)) (n (um P) (n (nU P) (y (zJ P)) (y (A3 P))) (n (uT P) (y (Fb P)) z))) (n (DZ P) (n (DG P) (n (tw P) (y (xu P)) (y (zb P))) (n (pB P) (y (Ax P)) z)) (n (pC P) (n (qX P) (y (zf P)) (y (Ba P))) (n (yx P) (y (A5 P)) z)))) (n (Dw P) (n (vN P) (n (Cj P) (n (nQ P) (y (Bl P)) (y (xF P))) (n (rM P) (y (yZ P)) z)) (n (tM P) (n (tF P) (y (FT P)) (y (Ad P))) (n (rJ P) (y (yo P)) z))) (n (C1 P) (n (we P) (n (rZ P) (y (yJ P)) (y (Fl P))) (n (q6 P) (y (yV P)) z)) (n (uI P) (n (ou P) (y (yc P)) z) (n (zY P) (y (xZ P)) z)))))) (n (PySem.W.boot_o_6 P) (n (PySem.W.boot_o_10 P) (n (wH P) (n (Cu P) (n (wo P) (n (rA P) (y (Bu P)) (y (zZ P))) (n (u9 P) (y (Bw P)) z)) (n (CQ P) (n (oQ P) (y (xo P)) (y (zw P))) (n (sM P) (y (Bk P)) z))) (n (C2 P) (n (CI P) (n (uA P) (y (xR P)) (y (Aq P))) (n (oU P) (y (y9 P)) z)) (n (oE P) (n (uR P) (y (ya P)) (y (xr P))) (n (yg P) (y (ET P)) z)))) (n (C5 P) (n (wI P) (n (DE P) (n (oF P) (y (BL P)) (y (BA P))) (n (tT P) (y (zM P)) z)) (n (sL P) (n (u6 P) (y (xq P)) (y (Fx P))) (n (sO P) (y (Ao P)) z))) (n (D4 P) (n (wV P) (n (qM P) (y (yS P)) (y (zB P))) (n (uJ P) (y (Br P)) z)) (n (tD P) (n (oV P) (y (FD P)) z) (n (EY P) (y (zD P)) z))))) (n (wL P) (n (Ci P) (n (DP P) (n (Cq P) (n (sP P) (y (Av P)) (y (BI P))) (n (m9 P) (y (yE P)) z)) (n (nk P) (n (rX P) (y (Ag P)) (y (Bm P))) (n (tQ P) (y (AU P)) z))) (n (xm P) (n (CN P) (n (nH P) (y (yq P)) (y (xC P))) (n (rW P) (y (Eu P)) z)) (n (uE P) (n (ua P) (y (Bx P)) (y (yd P))) (n (yK P) (y (A9 P)) z)))) (n (wJ P) (n (DJ P) (n (wh P) (n (rS P) (y (zU P)) (y (Fv P))) (n (sj P) (y (xT P)) z)) (n (qY P) (n (nP P) (y (zX P)) (y (BK P))) (n (EE P) (y (Af P)) z))) (n (Cz P) (n (DU P) (n (tW P) (y (Ft P)) (y (AF P))) (n (nG P) (y (Bq P)) z)) (n (nO P) (n (q9 P) (y (AH P)) z) (n (Bg P) (y (xE P)) z))))))))
def Ud (P : Params) : Obj := ⟨(T "dict"), none, (.dict [e P "__name__" 165 (s "law_dunnage_k45_pages_written" 1119), e P "__doc__" 166 N, e P "__package__" 167 N, e P "__loader__" 168 (B "__main__.__loader__#opaque"), e P "__spec__" 169 N, e P "__annotations__" 170 (r 6), e P "__builtins__" 171 (r 4), e P "__file__" 173 (s "/claim/cut.py" 172), e P "__cached__" 174 N, e P "_wall" 193 (r 21), e P "YardError" 213 (r 31), e P "BadName" 229 (r 44), e P "Taken" 245 (r 56), e P "BadCourse" 261 (r 68), e P "BadPlace" 277 (r 80), e P "BadWeight" 293 (r 92), e P "Full" 309 (r 104), e P "Crowded" 325 (r 116), e P "NoThing" 341 (r 128), e P "InUse" 357 (r 140), e P "NoSack" 373 (r 152), e P "NoCord" 389 (r 164), e P "BadCord" 405 (r 176), e P "BadDeed" 421 (r 188), e P "BadDay" 437 (r 200), e P "NoEntry" 453 (r 212), e P "NothingThere" 469 (r 224), e P "LETTERS" 473 (s "abcdefghijklmnopqrstuvwxyz" 472), e P "LONGEST_NAME" 475 (i (8) 474), e P "FARTHEST_PLACE" 477 (i (1000000) 476), e P "HIGHEST_COURSE" 479 (i (9) 478), e P "GREATEST_WEIGHT" 481 (i (1000000000) 480), e P "DEED_THINGS" 525 (r 227), e P "check_form" 532 (r 243), e P "is_name" 538 (r 248), e P "is_number" 545 (r 255), e P "is_place" 552 (r 262), e P "is_course" 559 (r 269), e P "is_weight" 566 (r 276), e P "MOST_BOARDS" 570 (i (6) 569), e P "MOST_TRESTLES" 572 (i (6) 571), e P "MOST_SACKS" 574 (i (8) 573), e P "MOST_CORDS" 576 (i (4) 575), e P "BEAM" 578 (s "" 577), e P "BEAM_ROW" 584 (r 277), e P "check_new_name" 593 (r 284), e P "check_course" 600 (r 291), e P "check_places" 608 (r 298), e P "check_weight" 615 (r 305), e P "check_count" 623 (r 312), e P "check_room" 635 (r 319), e P "check_on_board" 643 (r 326), e P "board_row" 651 (r 333), e P "board_or_trestle_row" 659 (r 340), e P "sack_row" 667 (r 347), e P "cord_row" 675 (r 354), e P "check_no_cord" 684 (r 361), e P "check_no_sack" 693 (r 368), e P "set_trestle" 704 (r 375), e P "lay_board" 716 (r 382), e P "take_away" 724 (r 389), e P "shift_along" 737 (r 396), e P "shift_sacks" 747 (r 403), e P "set_sack" 758 (r 410), e P "move_sack" 769 (r 417), e P "lift_sack" 777 (r 424), e P "tie_cord" 790 (r 431), e P "cut_cord" 798 (r 438), e P "ACTIONS" 817 (r 439), e P "Yard" 893 (r 498), e P "LAST_DAY" 897 (i (9999) 896), e P "GREATEST_NUMBER" 899 (i (9999999999) 898), e P "check_day" 906 (r 509), e P "check_numbers" 915 (r 516), e P "check_names" 924 (r 523), e P "check_entry" 932 (r 530), e P "Diary" 1091 (r 648), e P "BEAM_WORD" 1095 (s "-" 1094), e P "words_of" 1101 (r 657), e P "written_row" 1112 (r 664), e P "written" 1118 (r 669), e P "_law_feed" 1133 (r 676), e P "_law_same" 1139 (r 681), e P "_law_names" 1145 (r 686), e P "_law_text_of" 1151 (r 691), e P "_law_page" 1157 (r 696), e P "_law_free_row" 1170 (r 703), e P "_law_free_rows" 1183 (r 710), e P "law" 1199 (r 717)].toArray 89), [].toArray⟩
def Ua (P : Params) : Obj := ⟨N, none, (.fields [(i (1) 0), (i (0) 0), (r 20), (i (5) 0), (i (0) 0), (r 27), (i (7) 0), (i (0) 0), (r 40), (i (9) 0), (i (0) 0), (r 52), (i (11) 0), (i (0) 0), (r 64), (i (13) 0), (i (0) 0), (r 76), (i (15) 0), (i (0) 0), (r 88), (i (17) 0), (i (0) 0), (r 100), (i (19) 0), (i (0) 0), (r 112), (i (21) 0), (i (0) 0), (r 124), (i (23) 0), (i (0) 0), (r 136), (i (25) 0), (i (0) 0), (r 148), (i (27) 0), (i (0) 0), (r 160), (i (29) 0), (i (0) 0), (r 172), (i (31) 0), (i (0) 0), (r 184), (i (33) 0), (i (0) 0), (r 196), (i (35) 0), (i (0) 0), (r 208), (i (37) 0), (i (0) 0), (r 220), (i (46) 0), (i (0) 0), (r 242), (i (49) 0), (i (0) 0), (r 247), (i (51) 0), (i (0) 0), (r 254), (i (53) 0), (i (0) 0), (r 261), (i (55) 0), (i (0) 0), (r 268), (i (57) 0), (i (0) 0), (r 275), (i (66) 0), (i (0) 0), (r 283), (i (72) 0), (i (0) 0), (r 290), (i (75) 0), (i (0) 0), (r 297), (i (78) 0), (i (0) 0), (r 304), (i (81) 0), (i (0) 0), (r 311), (i (84) 0), (i (0) 0), (r 318), (i (90) 0), (i (0) 0), (r 325), (i (93) 0), (i (0) 0), (r 332), (i (97) 0), (i (0) 0), (r 339), (i (103) 0), (i (0) 0), (r 346), (i (107) 0), (i (0) 0), (r 353), (i (111) 0), (i (0) 0), (r 360), (i (115) 0), (i (0) 0), (r 367), (i (119) 0), (i (0) 0), (r 374), (i (128) 0), (i (0) 0), (r 381), (i (138) 0), (i (0) 0), (r 388), (i (146) 0), (i (0) 0), (r 395), (i (159) 0), (i (0) 0), (r 402), (i (163) 0), (i (0) 0), (r 409), (i (169) 0), (i (0) 0), (r 416), (i (173) 0), (i (0) 0), (r 423), (i (176) 0), (i (0) 0), (r 430), (i (186) 0), (i (0) 0), (r 437), (i (190) 0), (i (0) 0), (r 445), (i (221) 0), (i (0) 0), (r 508), (i (224) 0), (i (0) 0), (r 515), (i (228) 0), (i (0) 0), (r 522), (i (234) 0), (i (0) 0), (r 529), (i (239) 0), (i (0) 0), (r 536), (i (324) 0), (i (0) 0), (r 656), (i (327) 0), (i (0) 0), (r 663), (i (329) 0), (i (0) 0), (r 668), (i (333) 0), (i (0) 0), (r 675), (i (349) 0), (i (0) 0), (r 680), (i (361) 0), (i (0) 0), (r 685), (i (370) 0), (i (0) 0), (r 690), (i (372) 0), (i (0) 0), (r 695), (i (377) 0), (i (0) 0), (r 702), (i (388) 0), (i (0) 0), (r 709), (i (396) 0), (i (0) 0), (r 716)].toArray), [].toArray⟩
def Te : Ob := tE
def Q2 (P : Params) : Obj := ⟨(T "builtin_function_or_method"), none, (.fields [(B "type.__prepare__"), (T "type")].toArray), [].toArray⟩
def QJ (P : Params) : Obj := ⟨(T "dict"), none, (.dict [e P "__module__" 825 (s "dunnage.yard" 567), e P "__qualname__" 827 (s "Yard" 826), e P "__firstlineno__" 829 (i (190) 828), e P "__init__" 836 (r 453), e P "do" 846 (r 460), e P "boards" 853 (r 467), e P "trestles" 860 (r 474), e P "sacks" 867 (r 481), e P "cords" 874 (r 488), e P "twin" 881 (r 495), e P "__static_attributes__" 886 (r 496)].toArray 11), [].toArray⟩
def QK : Ob := tE
def QD (P : Params) : Obj := ⟨N, none, (.fields [(i (192) 0), (i (4) 0), (r 452), (i (198) 0), (i (4) 0), (r 459), (i (204) 0), (i (4) 0), (r 466), (i (207) 0), (i (4) 0), (r 473), (i (210) 0), (i (4) 0), (r 480), (i (213) 0), (i (4) 0), (r 487), (i (216) 0), (i (4) 0), (r 494)].toArray), [].toArray⟩
def Ru : Ob := cO "Yard" "Yard" 820 821 822 190 0 0 0 0 443 181 0 444 823 190 0 0 824
def Sx (P : Params) : Obj := ⟨(T "frame"), none, .plain, [(some (r 445)), (some (r 3)), (some (r 442)), none, (some (s "dunnage.yard" 567)), none, (some (r 0))].toArray⟩
def QO : Ob := tE
def RN : Ob := nE
def QN (P : Params) : Obj := ⟨(T "tuple"), none, (.seq [(s "self" 833)].toArray 0), [].toArray⟩
def Si : Ob := tE
def RM : Ob := gO "__init__" "Yard.__init__" (inClass (ak 63) 0)
def IA (P : Params) : Obj := ⟨(T "code"), none, (.fields [(s "__init__" 830), (s "Yard.__init__" 831), (s "/claim/cut.py" 832), (i (192) 0), (i (1) 0), (i (0) 0), (i (0) 0), (i (3) 0), (r 447), (.bool true), (i (181) 0), (r 448), N, (r 449), (r 450), (r 451), (i (834) 0), (i (192) 0), (s "/claim/cut.py" 835)].toArray), [].toArray⟩
def Mh : Ob := fO "__init__" "Yard.__init__" (inClass (ak 63) 0) 3 "dunnage.yard" 567 452 0
def Tp : Ob := tE
def R6 : Ob := nE
def Rk (P : Params) : Obj := ⟨(T "tuple"), none, (.seq [(s "self" 840), (s "deed" 841), (s "action" 842), (s "things" 843)].toArray 0), [].toArray⟩
def QT : Ob := tE
def RI : Ob := gO "do" "Yard.do" (inClass (ak 63) 1)
def JG (P : Params) : Obj := ⟨(T "code"), none, (.fields [(s "do" 837), (s "Yard.do" 838), (s "/claim/cut.py" 839), (i (198) 0), (i (2) 0), (i (0) 0), (i (0) 0), (i (3) 0), (r 454), (.bool true), (i (181) 0), (r 455), N, (r 456), (r 457), (r 458), (i (844) 0), (i (198) 0), (s "/claim/cut.py" 845)].toArray), [].toArray⟩
def Le : Ob := fO "do" "Yard.do" (inClass (ak 63) 1) 3 "dunnage.yard" 567 459 0
def Se : Ob := tE
def R5 : Ob := nE
def Sf (P : Params) : Obj := ⟨(T "tuple"), none, (.seq [(s "self" 850)].toArray 0), [].toArray⟩
def Pe : Ob := tE
def Sy : Ob := gO "boards" "Yard.boards" (inClass (ak 63) 2)
def J8 (P : Params) : Obj := ⟨(T "code"), none, (.fields [(s "boards" 847), (s "Yard.boards" 848), (s "/claim/cut.py" 849), (i (204) 0), (i (1) 0), (i (0) 0), (i (0) 0), (i (3) 0), (r 461), (.bool true), (i (181) 0), (r 462), N, (r 463), (r 464), (r 465), (i (851) 0), (i (204) 0), (s "/claim/cut.py" 852)].toArray), [].toArray⟩
def JW : Ob := fO "boards" "Yard.boards" (inClass (ak 63) 2) 3 "dunnage.yard" 567 466 0
def QH : Ob := tE
def RU : Ob := nE
def QB (P : Params) : Obj := ⟨(T "tuple"), none, (.seq [(s "self" 857)].toArray 0), [].toArray⟩
def PM : Ob := tE
def QF : Ob := gO "trestles" "Yard.trestles" (inClass (ak 63) 3)
def JT (P : Params) : Obj := ⟨(T "code"), none, (.fields [(s "trestles" 854), (s "Yard.trestles" 855), (s "/claim/cut.py" 856), (i (207) 0), (i (1) 0), (i (0) 0), (i (0) 0), (i (3) 0), (r 468), (.bool true), (i (181) 0), (r 469), N, (r 470), (r 471), (r 472), (i (858) 0), (i (207) 0), (s "/claim/cut.py" 859)].toArray), [].toArray⟩
def JP : Ob := fO "trestles" "Yard.trestles" (inClass (ak 63) 3) 3 "dunnage.yard" 567 473 0
def Tf : Ob := tE
def To : Ob := nE
def RW (P : Params) : Obj := ⟨(T "tuple"), none, (.seq [(s "self" 864)].toArray 0), [].toArray⟩
def Rx : Ob := tE
def Rz : Ob := gO "sacks" "Yard.sacks" (inClass (ak 63) 4)
def KN (P : Params) : Obj := ⟨(T "code"), none, (.fields [(s "sacks" 861), (s "Yard.sacks" 862), (s "/claim/cut.py" 863), (i (210) 0), (i (1) 0), (i (0) 0), (i (0) 0), (i (3) 0), (r 475), (.bool true), (i (181) 0), (r 476), N, (r 477), (r 478), (r 479), (i (865) 0), (i (210) 0), (s "/claim/cut.py" 866)].toArray), [].toArray⟩
def Ms : Ob := fO "sacks" "Yard.sacks" (inClass (ak 63) 4) 3 "dunnage.yard" 567 480 0
def Sj : Ob := tE
def P4 : Ob := nE
def Tg (P : Params) : Obj := ⟨(T "tuple"), none, (.seq [(s "self" 871)].toArray 0), [].toArray⟩
def Po : Ob := tE
def QI : Ob := gO "cords" "Yard.cords" (inClass (ak 63) 5)
def Mi (P : Params) : Obj := ⟨(T "code"), none, (.fields [(s "cords" 868), (s "Yard.cords" 869), (s "/claim/cut.py" 870), (i (213) 0), (i (1) 0), (i (0) 0), (i (0) 0), (i (3) 0), (r 482), (.bool true), (i (181) 0), (r 483), N, (r 484), (r 485), (r 486), (i (872) 0), (i (213) 0), (s "/claim/cut.py" 873)].toArray), [].toArray⟩
def Jm : Ob := fO "cords" "Yard.cords" (inClass (ak 63) 5) 3 "dunnage.yard" 567 487 0
def QV : Ob := tE
def RG : Ob := nE
def Rr (P : Params) : Obj := ⟨(T "tuple"), none, (.seq [(s "self" 878)].toArray 0), [].toArray⟩
def Q6 : Ob := tE
def QW : Ob := gO "twin" "Yard.twin" (inClass (ak 63) 6)
def Ku (P : Params) : Obj := ⟨(T "code"), none, (.fields [(s "twin" 875), (s "Yard.twin" 876), (s "/claim/cut.py" 877), (i (216) 0), (i (1) 0), (i (0) 0), (i (0) 0), (i (3) 0), (r 489), (.bool true), (i (181) 0), (r 490), N, (r 491), (r 492), (r 493), (i (879) 0), (i (216) 0), (s "/claim/cut.py" 880)].toArray), [].toArray⟩
def Jq : Ob := fO "twin" "Yard.twin" (inClass (ak 63) 6) 3 "dunnage.yard" 567 494 0
def KJ (P : Params) : Obj := ⟨(T "tuple"), none, (.seq [(s "board_rows" 882), (s "cord_rows" 883), (s "sack_rows" 884), (s "trestle_rows" 885)].toArray 0), [].toArray⟩
def IE (P : Params) : Obj := ⟨(T "dict"), none, (.dict [e P "__module__" 825 (s "dunnage.yard" 567), e P "__firstlineno__" 829 (i (190) 828), e P "__init__" 836 (r 453), e P "do" 846 (r 460), e P "boards" 853 (r 467), e P "trestles" 860 (r 474), e P "sacks" 867 (r 481), e P "cords" 874 (r 488), e P "twin" 881 (r 495), e P "__static_attributes__" 886 (r 496), e P "__dict__" 888 (r 499), e P "__weakref__" 890 (r 500), e P "__doc__" 891 N].toArray 4), [].toArray⟩
def MF (P : Params) : Obj := ⟨(T "type"), none, (.cls ⟨(q "Yard"), [(T "object")], [(r 498), (T "object")], 497, (q "Yard"), true, [], [], false, none, false⟩), [none, none, (some (s "Yard" 818)), (some (s "Yard" 826)), (some (B "object.__new__")), (some (.bool true))].toArray⟩
def Im (P : Params) : Obj := ⟨(T "getset_descriptor"), none, (.fields [(s "__dict__" 887), (r 498), (B "function.__dict__"), (B "function.__dict__#set")].toArray), [].toArray⟩
def Jv (P : Params) : Obj := ⟨(T "getset_descriptor"), none, (.fields [(s "__weakref__" 889), (r 498), (B "ExceptionGroup.__weakref__"), N].toArray), [].toArray⟩
def P8 (P : Params) : Obj := ⟨(T "super"), none, (.fields [(r 498), (r 498), (r 498)].toArray), [].toArray⟩
def Pc (P : Params) : Obj := ⟨(T "builtin_function_or_method"), none, (.fields [(B "object.__init_subclass__"), (r 498)].toArray), [].toArray⟩
def Mc : Ob := tE
def Td : Ob := nE
def Kv (P : Params) : Obj := ⟨(T "tuple"), none, (.seq [(s "day" 903)].toArray 0), [].toArray⟩
def LN : Ob := tE
def KY : Ob := gO "check_day" "check_day" (ak 67)
def Kl (P : Params) : Obj := ⟨(T "code"), none, (.fields [(s "check_day" 900), (s "check_day" 901), (s "/claim/cut.py" 902), (i (221) 0), (i (1) 0), (i (0) 0), (i (0) 0), (i (3) 0), (r 503), (.bool true), (i (181) 0), (r 504), N, (r 505), (r 506), (r 507), (i (904) 0), (i (221) 0), (s "/claim/cut.py" 905)].toArray), [].toArray⟩
def L5 : Ob := fO "check_day" "check_day" (ak 67) 3 "dunnage.diary" 894 508 0
def Ju : Ob := tE
def QA : Ob := nE
def LA (P : Params) : Obj := ⟨(T "tuple"), none, (.seq [(s "deed" 910), (s "thing" 911), (s "kind" 912)].toArray 0), [].toArray⟩
def Ie : Ob := tE
def Ka : Ob := gO "check_numbers" "check_numbers" (ak 68)
def Ik (P : Params) : Obj := ⟨(T "code"), none, (.fields [(s "check_numbers" 907), (s "check_numbers" 908), (s "/claim/cut.py" 909), (i (224) 0), (i (1) 0), (i (0) 0), (i (0) 0), (i (3) 0), (r 510), (.bool true), (i (181) 0), (r 511), N, (r 512), (r 513), (r 514), (i (913) 0), (i (224) 0), (s "/claim/cut.py" 914)].toArray), [].toArray⟩
def Lu : Ob := fO "check_numbers" "check_numbers" (ak 68) 3 "dunnage.diary" 894 515 0
def Jb : Ob := tE
def Rg : Ob := nE
def IL (P : Params) : Obj := ⟨(T "tuple"), none, (.seq [(s "deed" 919), (s "thing" 920), (s "kind" 921)].toArray 0), [].toArray⟩
def Kh : Ob := tE
def Ls : Ob := gO "check_names" "check_names" (ak 69)
def Ir (P : Params) : Obj := ⟨(T "code"), none, (.fields [(s "check_names" 916), (s "check_names" 917), (s "/claim/cut.py" 918), (i (228) 0), (i (1) 0), (i (0) 0), (i (0) 0), (i (3) 0), (r 517), (.bool true), (i (181) 0), (r 518), N, (r 519), (r 520), (r 521), (i (922) 0), (i (228) 0), (s "/claim/cut.py" 923)].toArray), [].toArray⟩
def Io : Ob := fO "check_names" "check_names" (ak 69) 3 "dunnage.diary" 894 522 0
def Mq : Ob := tE
def Q0 : Ob := nE
def Ic (P : Params) : Obj := ⟨(T "tuple"), none, (.seq [(s "day" 928), (s "deed" 929)].toArray 0), [].toArray⟩
def Ji : Ob := tE
def My : Ob := gO "check_entry" "check_entry" (ak 70)
def Iu (P : Params) : Obj := ⟨(T "code"), none, (.fields [(s "check_entry" 925), (s "check_entry" 926), (s "/claim/cut.py" 927), (i (234) 0), (i (2) 0), (i (0) 0), (i (0) 0), (i (3) 0), (r 524), (.bool true), (i (181) 0), (r 525), N, (r 526), (r 527), (r 528), (i (930) 0), (i (234) 0), (s "/claim/cut.py" 931)].toArray), [].toArray⟩
def Ml : Ob := fO "check_entry" "check_entry" (ak 70) 3 "dunnage.diary" 894 529 0
def Ro : Ob := tE
def Rf (P : Params) : Obj := ⟨(T "builtin_function_or_method"), none, (.fields [(B "type.__prepare__"), (T "type")].toArray), [].toArray⟩
def RX (P : Params) : Obj := ⟨(T "dict"), none, (.dict [e P "__module__" 940 (s "dunnage.diary" 894), e P "__qualname__" 942 (s "Diary" 941), e P "__firstlineno__" 944 (i (239) 943), e P "__init__" 951 (r 544), e P "enter" 961 (r 551), e P "strike" 969 (r 558), e P "correct" 980 (r 565), e P "back" 990 (r 572), e P "again" 1000 (r 579), e P "rows" 1006 (r 584), e P "coming" 1013 (r 591), e P "yard" 1021 (r 598), e P "word" 1029 (r 605), e P "twin" 1036 (r 612), e P "entry" 1044 (r 619), e P "put" 1053 (r 626), e P "make" 1063 (r 633), e P "change" 1073 (r 640), e P "followed" 1079 (r 645), e P "__static_attributes__" 1084 (r 646)].toArray 20), [].toArray⟩
def Sb : Ob := tE
def O7 (P : Params) : Obj := ⟨N, none, (.fields [(i (241) 0), (i (4) 0), (r 543), (i (247) 0), (i (4) 0), (r 550), (i (253) 0), (i (4) 0), (r 557), (i (256) 0), (i (4) 0), (r 564), (i (261) 0), (i (4) 0), (r 571), (i (270) 0), (i (4) 0), (r 578), (i (276) 0), (i (4) 0), (r 583), (i (279) 0), (i (4) 0), (r 590), (i (282) 0), (i (4) 0), (r 597), (i (286) 0), (i (4) 0), (r 604), (i (289) 0), (i (4) 0), (r 611), (i (292) 0), (i (4) 0), (r 618), (i (297) 0), (i (4) 0), (r 625), (i (303) 0), (i (4) 0), (r 632), (i (309) 0), (i (4) 0), (r 639), (i (313) 0), (i (4) 0), (r 644)].toArray), [].toArray⟩
def Pr : Ob := cO "Diary" "Diary" 935 936 937 239 0 0 0 0 534 181 0 535 938 239 0 0 939
def SA (P : Params) : Obj := ⟨(T "frame"), none, .plain, [(some (r 536)), (some (r 3)), (some (r 533)), none, (some (s "dunnage.diary" 894)), none, (some (r 0))].toArray⟩
def RO : Ob := tE
def PB : Ob := nE
def P5 (P : Params) : Obj := ⟨(T "tuple"), none, (.seq [(s "self" 948)].toArray 0), [].toArray⟩
def Ry : Ob := tE
def RY : Ob := gO "__init__" "Diary.__init__" (inClass (ak 71) 0)
def LP (P : Params) : Obj := ⟨(T "code"), none, (.fields [(s "__init__" 945), (s "Diary.__init__" 946), (s "/claim/cut.py" 947), (i (241) 0), (i (1) 0), (i (0) 0), (i (0) 0), (i (3) 0), (r 538), (.bool true), (i (181) 0), (r 539), N, (r 540), (r 541), (r 542), (i (949) 0), (i (241) 0), (s "/claim/cut.py" 950)].toArray), [].toArray⟩
def KA : Ob := fO "__init__" "Diary.__init__" (inClass (ak 71) 0) 3 "dunnage.diary" 894 543 0
def Qk : Ob := tE
def SY : Ob := nE
def PV (P : Params) : Obj := ⟨(T "tuple"), none, (.seq [(s "self" 955), (s "day" 956), (s "deed" 957), (s "number" 958)].toArray 0), [].toArray⟩
def Q8 : Ob := tE
def O6 : Ob := gO "enter" "Diary.enter" (inClass (ak 71) 1)
def La (P : Params) : Obj := ⟨(T "code"), none, (.fields [(s "enter" 952), (s "Diary.enter" 953), (s "/claim/cut.py" 954), (i (247) 0), (i (3) 0), (i (0) 0), (i (0) 0), (i (3) 0), (r 545), (.bool true), (i (181) 0), (r 546), N, (r 547), (r 548), (r 549), (i (959) 0), (i (247) 0), (s "/claim/cut.py" 960)].toArray), [].toArray⟩
def JV : Ob := fO "enter" "Diary.enter" (inClass (ak 71) 1) 3 "dunnage.diary" 894 550 0
def Qm : Ob := tE
def Tc : Ob := nE
def QX (P : Params) : Obj := ⟨(T "tuple"), none, (.seq [(s "self" 965), (s "number" 966)].toArray 0), [].toArray⟩
def Rm : Ob := tE
def PX : Ob := gO "strike" "Diary.strike" (inClass (ak 71) 2)
def LS (P : Params) : Obj := ⟨(T "code"), none, (.fields [(s "strike" 962), (s "Diary.strike" 963), (s "/claim/cut.py" 964), (i (253) 0), (i (2) 0), (i (0) 0), (i (0) 0), (i (3) 0), (r 552), (.bool true), (i (181) 0), (r 553), N, (r 554), (r 555), (r 556), (i (967) 0), (i (253) 0), (s "/claim/cut.py" 968)].toArray), [].toArray⟩
def Km : Ob := fO "strike" "Diary.strike" (inClass (ak 71) 2) 3 "dunnage.diary" 894 557 0
def SN : Ob := tE
def R7 : Ob := nE
def R1 (P : Params) : Obj := ⟨(T "tuple"), none, (.seq [(s "self" 973), (s "number" 974), (s "day" 975), (s "deed" 976), (s "old" 977)].toArray 0), [].toArray⟩
def Sq : Ob := tE
def Pz : Ob := gO "correct" "Diary.correct" (inClass (ak 71) 3)
def K9 (P : Params) : Obj := ⟨(T "code"), none, (.fields [(s "correct" 970), (s "Diary.correct" 971), (s "/claim/cut.py" 972), (i (256) 0), (i (4) 0), (i (0) 0), (i (0) 0), (i (3) 0), (r 559), (.bool true), (i (181) 0), (r 560), N, (r 561), (r 562), (r 563), (i (978) 0), (i (256) 0), (s "/claim/cut.py" 979)].toArray), [].toArray⟩
def J6 : Ob := fO "correct" "Diary.correct" (inClass (ak 71) 3) 3 "dunnage.diary" 894 564 0
def RQ : Ob := tE
def SR : Ob := nE
def QG (P : Params) : Obj := ⟨(T "tuple"), none, (.seq [(s "self" 984), (s "number" 985), (s "old" 986), (s "new" 987)].toArray 0), [].toArray⟩
def Qi : Ob := tE
def PZ : Ob := gO "back" "Diary.back" (inClass (ak 71) 4)
def L3 (P : Params) : Obj := ⟨(T "code"), none, (.fields [(s "back" 981), (s "Diary.back" 982), (s "/claim/cut.py" 983), (i (261) 0), (i (1) 0), (i (0) 0), (i (0) 0), (i (3) 0), (r 566), (.bool true), (i (181) 0), (r 567), N, (r 568), (r 569), (r 570), (i (988) 0), (i (261) 0), (s "/claim/cut.py" 989)].toArray), [].toArray⟩
def IJ : Ob := fO "back" "Diary.back" (inClass (ak 71) 4) 3 "dunnage.diary" 894 571 0
def Pb : Ob := tE
def PF : Ob := nE
def Q3 (P : Params) : Obj := ⟨(T "tuple"), none, (.seq [(s "self" 994), (s "number" 995), (s "old" 996), (s "new" 997)].toArray 0), [].toArray⟩
def SO : Ob := tE
def Qe : Ob := gO "again" "Diary.again" (inClass (ak 71) 5)
def LQ (P : Params) : Obj := ⟨(T "code"), none, (.fields [(s "again" 991), (s "Diary.again" 992), (s "/claim/cut.py" 993), (i (270) 0), (i (1) 0), (i (0) 0), (i (0) 0), (i (3) 0), (r 573), (.bool true), (i (181) 0), (r 574), N, (r 575), (r 576), (r 577), (i (998) 0), (i (270) 0), (s "/claim/cut.py" 999)].toArray), [].toArray⟩
def LY : Ob := fO "again" "Diary.again" (inClass (ak 71) 5) 3 "dunnage.diary" 894 578 0
def SX : Ob := tE
def Rn : Ob := nE
def Qp : Ob := gO "rows" "Diary.rows" (inClass (ak 71) 6)
def K7 (P : Params) : Obj := ⟨(T "code"), none, (.fields [(s "rows" 1001), (s "Diary.rows" 1002), (s "/claim/cut.py" 1003), (i (276) 0), (i (1) 0), (i (0) 0), (i (0) 0), (i (3) 0), (r 580), (.bool true), (i (181) 0), (r 581), N, N, N, (r 582), (i (1004) 0), (i (276) 0), (s "/claim/cut.py" 1005)].toArray), [].toArray⟩
def ME : Ob := fO "rows" "Diary.rows" (inClass (ak 71) 6) 3 "dunnage.diary" 894 583 0
def R8 : Ob := tE
def QM : Ob := nE
def S7 (P : Params) : Obj := ⟨(T "tuple"), none, (.seq [(s "self" 1010)].toArray 0), [].toArray⟩
def R3 : Ob := tE
def Sn : Ob := gO "coming" "Diary.coming" (inClass (ak 71) 7)
def JL (P : Params) : Obj := ⟨(T "code"), none, (.fields [(s "coming" 1007), (s "Diary.coming" 1008), (s "/claim/cut.py" 1009), (i (279) 0), (i (1) 0), (i (0) 0), (i (0) 0), (i (3) 0), (r 585), (.bool true), (i (181) 0), (r 586), N, (r 587), (r 588), (r 589), (i (1011) 0), (i (279) 0), (s "/claim/cut.py" 1012)].toArray), [].toArray⟩
def KH : Ob := fO "coming" "Diary.coming" (inClass (ak 71) 7) 3 "dunnage.diary" 894 590 0
def Qa : Ob := tE
def Ra : Ob := nE
def Pk (P : Params) : Obj := ⟨(T "tuple"), none, (.seq [(s "self" 1017), (s "day" 1018)].toArray 0), [].toArray⟩
def RH : Ob := tE
def Q9 : Ob := gO "yard" "Diary.yard" (inClass (ak 71) 8)
def Mb (P : Params) : Obj := ⟨(T "code"), none, (.fields [(s "yard" 1014), (s "Diary.yard" 1015), (s "/claim/cut.py" 1016), (i (282) 0), (i (2) 0), (i (0) 0), (i (0) 0), (i (3) 0), (r 592), (.bool true), (i (181) 0), (r 593), N, (r 594), (r 595), (r 596), (i (1019) 0), (i (282) 0), (s "/claim/cut.py" 1020)].toArray), [].toArray⟩
def I4 : Ob := fO "yard" "Diary.yard" (inClass (ak 71) 8) 3 "dunnage.diary" 894 597 0
def SV : Ob := tE
def Rp : Ob := nE
def Qx (P : Params) : Obj := ⟨(T "tuple"), none, (.seq [(s "self" 1025), (s "number" 1026)].toArray 0), [].toArray⟩
def S9 : Ob := tE
def RV : Ob := gO "word" "Diary.word" (inClass (ak 71) 9)
def KD (P : Params) : Obj := ⟨(T "code"), none, (.fields [(s "word" 1022), (s "Diary.word" 1023), (s "/claim/cut.py" 1024), (i (286) 0), (i (2) 0), (i (0) 0), (i (0) 0), (i (3) 0), (r 599), (.bool true), (i (181) 0), (r 600), N, (r 601), (r 602), (r 603), (i (1027) 0), (i (286) 0), (s "/claim/cut.py" 1028)].toArray), [].toArray⟩
def Jj : Ob := fO "word" "Diary.word" (inClass (ak 71) 9) 3 "dunnage.diary" 894 604 0
def PL : Ob := tE
def PR : Ob := nE
def SE (P : Params) : Obj := ⟨(T "tuple"), none, (.seq [(s "self" 1033)].toArray 0), [].toArray⟩
def SH : Ob := tE
def Py : Ob := gO "twin" "Diary.twin" (inClass (ak 71) 10)
def Kg (P : Params) : Obj := ⟨(T "code"), none, (.fields [(s "twin" 1030), (s "Diary.twin" 1031), (s "/claim/cut.py" 1032), (i (289) 0), (i (1) 0), (i (0) 0), (i (0) 0), (i (3) 0), (r 606), (.bool true), (i (181) 0), (r 607), N, (r 608), (r 609), (r 610), (i (1034) 0), (i (289) 0), (s "/claim/cut.py" 1035)].toArray), [].toArray⟩
def KW : Ob := fO "twin" "Diary.twin" (inClass (ak 71) 10) 3 "dunnage.diary" 894 611 0
def RA : Ob := tE
def RK : Ob := nE
def P7 (P : Params) : Obj := ⟨(T "tuple"), none, (.seq [(s "self" 1040), (s "number" 1041)].toArray 0), [].toArray⟩
def Ql : Ob := tE
def Qc : Ob := gO "entry" "Diary.entry" (inClass (ak 71) 11)
def J5 (P : Params) : Obj := ⟨(T "code"), none, (.fields [(s "entry" 1037), (s "Diary.entry" 1038), (s "/claim/cut.py" 1039), (i (292) 0), (i (2) 0), (i (0) 0), (i (0) 0), (i (3) 0), (r 613), (.bool true), (i (181) 0), (r 614), N, (r 615), (r 616), (r 617), (i (1042) 0), (i (292) 0), (s "/claim/cut.py" 1043)].toArray), [].toArray⟩
def II : Ob := fO "entry" "Diary.entry" (inClass (ak 71) 11) 3 "dunnage.diary" 894 618 0
def Sz : Ob := tE
def PD : Ob := nE
def QY (P : Params) : Obj := ⟨(T "tuple"), none, (.seq [(s "self" 1048), (s "number" 1049), (s "entry" 1050)].toArray 0), [].toArray⟩
def Rq : Ob := tE
def Qt : Ob := gO "put" "Diary.put" (inClass (ak 71) 12)
def Ly (P : Params) : Obj := ⟨(T "code"), none, (.fields [(s "put" 1045), (s "Diary.put" 1046), (s "/claim/cut.py" 1047), (i (297) 0), (i (3) 0), (i (0) 0), (i (0) 0), (i (3) 0), (r 620), (.bool true), (i (181) 0), (r 621), N, (r 622), (r 623), (r 624), (i (1051) 0), (i (297) 0), (s "/claim/cut.py" 1052)].toArray), [].toArray⟩
def IX : Ob := fO "put" "Diary.put" (inClass (ak 71) 12) 3 "dunnage.diary" 894 625 0
def RP : Ob := tE
def PN : Ob := nE
def Ph (P : Params) : Obj := ⟨(T "tuple"), none, (.seq [(s "self" 1057), (s "number" 1058), (s "old" 1059), (s "new" 1060)].toArray 0), [].toArray⟩
def RC : Ob := tE
def Sk : Ob := gO "make" "Diary.make" (inClass (ak 71) 13)
def J0 (P : Params) : Obj := ⟨(T "code"), none, (.fields [(s "make" 1054), (s "Diary.make" 1055), (s "/claim/cut.py" 1056), (i (303) 0), (i (4) 0), (i (0) 0), (i (0) 0), (i (3) 0), (r 627), (.bool true), (i (181) 0), (r 628), N, (r 629), (r 630), (r 631), (i (1061) 0), (i (303) 0), (s "/claim/cut.py" 1062)].toArray), [].toArray⟩
def Ii : Ob := fO "make" "Diary.make" (inClass (ak 71) 13) 3 "dunnage.diary" 894 632 0
def SK : Ob := tE
def Sv : Ob := nE
def QC (P : Params) : Obj := ⟨(T "tuple"), none, (.seq [(s "self" 1067), (s "number" 1068), (s "old" 1069), (s "new" 1070)].toArray 0), [].toArray⟩
def Sw : Ob := tE
def RE : Ob := gO "change" "Diary.change" (inClass (ak 71) 14)
def KP (P : Params) : Obj := ⟨(T "code"), none, (.fields [(s "change" 1064), (s "Diary.change" 1065), (s "/claim/cut.py" 1066), (i (309) 0), (i (4) 0), (i (0) 0), (i (0) 0), (i (3) 0), (r 634), (.bool true), (i (181) 0), (r 635), N, (r 636), (r 637), (r 638), (i (1071) 0), (i (309) 0), (s "/claim/cut.py" 1072)].toArray), [].toArray⟩
def Ig : Ob := fO "change" "Diary.change" (inClass (ak 71) 14) 3 "dunnage.diary" 894 639 0
def O5 : Ob := tE
def O8 : Ob := nE
def Rc : Ob := gO "followed" "Diary.followed" (inClass (ak 71) 15)
def LM (P : Params) : Obj := ⟨(T "code"), none, (.fields [(s "followed" 1074), (s "Diary.followed" 1075), (s "/claim/cut.py" 1076), (i (313) 0), (i (2) 0), (i (0) 0), (i (0) 0), (i (3) 0), (r 641), (.bool true), (i (181) 0), (r 642), N, N, N, (r 643), (i (1077) 0), (i (313) 0), (s "/claim/cut.py" 1078)].toArray), [].toArray⟩
def Jl : Ob := fO "followed" "Diary.followed" (inClass (ak 71) 15) 3 "dunnage.diary" 894 644 0
def MD (P : Params) : Obj := ⟨(T "tuple"), none, (.seq [(s "changes" 1080), (s "changes_taken_back" 1081), (s "entries" 1082), (s "following" 1083)].toArray 0), [].toArray⟩
def Lx (P : Params) : Obj := ⟨(T "dict"), none, (.dict [e P "__module__" 940 (s "dunnage.diary" 894), e P "__firstlineno__" 944 (i (239) 943), e P "__init__" 951 (r 544), e P "enter" 961 (r 551), e P "strike" 969 (r 558), e P "correct" 980 (r 565), e P "back" 990 (r 572), e P "again" 1000 (r 579), e P "rows" 1006 (r 584), e P "coming" 1013 (r 591), e P "yard" 1021 (r 598), e P "word" 1029 (r 605), e P "twin" 1036 (r 612), e P "entry" 1044 (r 619), e P "put" 1053 (r 626), e P "make" 1063 (r 633), e P "change" 1073 (r 640), e P "followed" 1079 (r 645), e P "__static_attributes__" 1084 (r 646), e P "__dict__" 1086 (r 649), e P "__weakref__" 1088 (r 650), e P "__doc__" 1089 N].toArray 4), [].toArray⟩
def JO (P : Params) : Obj := ⟨(T "type"), none, (.cls ⟨(q "Diary"), [(T "object")], [(r 648), (T "object")], 647, (q "Diary"), true, [], [], false, none, false⟩), [none, none, (some (s "Diary" 933)), (some (s "Diary" 941)), (some (B "object.__new__")), (some (.bool true))].toArray⟩
def IY (P : Params) : Obj := ⟨(T "getset_descriptor"), none, (.fields [(s "__dict__" 1085), (r 648), (B "function.__dict__"), (B "function.__dict__#set")].toArray), [].toArray⟩
def LK (P : Params) : Obj := ⟨(T "getset_descriptor"), none, (.fields [(s "__weakref__" 1087), (r 648), (B "ExceptionGroup.__weakref__"), N].toArray), [].toArray⟩
def Pn (P : Params) : Obj := ⟨(T "super"), none, (.fields [(r 648), (r 648), (r 648)].toArray), [].toArray⟩
def SJ (P : Params) : Obj := ⟨(T "builtin_function_or_method"), none, (.fields [(B "object.__init_subclass__"), (r 648)].toArray), [].toArray⟩
def Ky : Ob := tE
def PU : Ob := nE
def IM : Ob := gO "words_of" "words_of" (ak 74)
def JN (P : Params) : Obj := ⟨(T "code"), none, (.fields [(s "words_of" 1096), (s "words_of" 1097), (s "/claim/cut.py" 1098), (i (324) 0), (i (1) 0), (i (0) 0), (i (0) 0), (i (3) 0), (r 653), (.bool true), (i (181) 0), (r 654), N, N, N, (r 655), (i (1099) 0), (i (324) 0), (s "/claim/cut.py" 1100)].toArray), [].toArray⟩
def KS : Ob := fO "words_of" "words_of" (ak 74) 3 "dunnage.words" 1092 656 0
def I0 : Ob := tE
def Q7 : Ob := nE
def Jh (P : Params) : Obj := ⟨(T "tuple"), none, (.seq [(s "number" 1107), (s "day" 1108), (s "deed" 1109)].toArray 0), [].toArray⟩
def JK : Ob := tE
def Il : Ob := gO "written_row" "written_row" (ak 76)
def JI (P : Params) : Obj := ⟨(T "code"), none, (.fields [(s "written_row" 1104), (s "written_row" 1105), (s "/claim/cut.py" 1106), (i (327) 0), (i (3) 0), (i (0) 0), (i (0) 0), (i (3) 0), (r 658), (.bool true), (i (181) 0), (r 659), N, (r 660), (r 661), (r 662), (i (1110) 0), (i (327) 0), (s "/claim/cut.py" 1111)].toArray), [].toArray⟩
def Jy : Ob := fO "written_row" "written_row" (ak 76) 3 "dunnage.page" 1102 663 0
def JC : Ob := tE
def R4 : Ob := nE
def Ke : Ob := gO "written" "written" (ak 77)
def Lo (P : Params) : Obj := ⟨(T "code"), none, (.fields [(s "written" 1113), (s "written" 1114), (s "/claim/cut.py" 1115), (i (329) 0), (i (1) 0), (i (0) 0), (i (0) 0), (i (3) 0), (r 665), (.bool true), (i (181) 0), (r 666), N, N, N, (r 667), (i (1116) 0), (i (329) 0), (s "/claim/cut.py" 1117)].toArray), [].toArray⟩
def Lq : Ob := fO "written" "written" (ak 77) 3 "dunnage.page" 1102 668 0
def LB : Ob := tE
def Qv : Ob := nE
def Kx (P : Params) : Obj := ⟨(T "tuple"), none, (.seq [(s "_law_script" 1124), (s "_law_many" 1125), (s "_law_feed_here" 1126), (s "_law_salt" 1127), (s "_law_cell" 1128), (s "_law_rest" 1129), (s "_law_k" 1130)].toArray 0), [].toArray⟩
def Iw : Ob := tE
def JH : Ob := gO "_law_feed" "_law_feed" (ak 79)
def LL (P : Params) : Obj := ⟨(T "code"), none, (.fields [(s "_law_feed" 1121), (s "_law_feed" 1122), (s "/claim/cut.py" 1123), (i (333) 0), (i (2) 0), (i (0) 0), (i (0) 0), (i (3) 0), (r 670), (.bool true), (i (181) 0), (r 671), N, (r 672), (r 673), (r 674), (i (1131) 0), (i (333) 0), (s "/claim/cut.py" 1132)].toArray), [].toArray⟩
def JA : Ob := fO "_law_feed" "_law_feed" (ak 79) 3 "law_dunnage_k45_pages_written" 1119 675 0
def ML : Ob := tE
def Ri : Ob := nE
def LU : Ob := gO "_law_same" "_law_same" (ak 80)
def Jp (P : Params) : Obj := ⟨(T "code"), none, (.fields [(s "_law_same" 1134), (s "_law_same" 1135), (s "/claim/cut.py" 1136), (i (349) 0), (i (2) 0), (i (0) 0), (i (0) 0), (i (3) 0), (r 677), (.bool true), (i (181) 0), (r 678), N, N, N, (r 679), (i (1137) 0), (i (349) 0), (s "/claim/cut.py" 1138)].toArray), [].toArray⟩
def Li : Ob := fO "_law_same" "_law_same" (ak 80) 3 "law_dunnage_k45_pages_written" 1119 680 0
def Jz : Ob := tE
def O4 : Ob := nE
def IF : Ob := gO "_law_names" "_law_names" (ak 81)
def LZ (P : Params) : Obj := ⟨(T "code"), none, (.fields [(s "_law_names" 1140), (s "_law_names" 1141), (s "/claim/cut.py" 1142), (i (361) 0), (i (2) 0), (i (0) 0), (i (0) 0), (i (3) 0), (r 682), (.bool true), (i (181) 0), (r 683), N, N, N, (r 684), (i (1143) 0), (i (361) 0), (s "/claim/cut.py" 1144)].toArray), [].toArray⟩
def Lp : Ob := fO "_law_names" "_law_names" (ak 81) 3 "law_dunnage_k45_pages_written" 1119 685 0
def JJ : Ob := tE
def Qs : Ob := nE
def J3 : Ob := gO "_law_text_of" "_law_text_of" (ak 82)
def KO (P : Params) : Obj := ⟨(T "code"), none, (.fields [(s "_law_text_of" 1146), (s "_law_text_of" 1147), (s "/claim/cut.py" 1148), (i (370) 0), (i (1) 0), (i (0) 0), (i (0) 0), (i (3) 0), (r 687), (.bool true), (i (181) 0), (r 688), N, N, N, (r 689), (i (1149) 0), (i (370) 0), (s "/claim/cut.py" 1150)].toArray), [].toArray⟩
def MH : Ob := fO "_law_text_of" "_law_text_of" (ak 82) 3 "law_dunnage_k45_pages_written" 1119 690 0
def Mp : Ob := tE
def Qj : Ob := nE
def MJ : Ob := gO "_law_page" "_law_page" (ak 83)
def L7 (P : Params) : Obj := ⟨(T "code"), none, (.fields [(s "_law_page" 1152), (s "_law_page" 1153), (s "/claim/cut.py" 1154), (i (372) 0), (i (2) 0), (i (0) 0), (i (0) 0), (i (3) 0), (r 692), (.bool true), (i (181) 0), (r 693), N, N, N, (r 694), (i (1155) 0), (i (372) 0), (s "/claim/cut.py" 1156)].toArray), [].toArray⟩
def Mg : Ob := fO "_law_page" "_law_page" (ak 83) 3 "law_dunnage_k45_pages_written" 1119 695 0
def I7 : Ob := tE
def QZ : Ob := nE
def MC (P : Params) : Obj := ⟨(T "tuple"), none, (.seq [(s "_law_names_here" 1161), (s "_law_d" 1162), (s "_law_name" 1163), (s "_law_other" 1164), (s "_law_lefts" 1165), (s "_law_left" 1166), (s "_law_some" 1167)].toArray 0), [].toArray⟩
def Kn : Ob := tE
def I5 : Ob := gO "_law_free_row" "_law_free_row" (ak 84)
def IP (P : Params) : Obj := ⟨(T "code"), none, (.fields [(s "_law_free_row" 1158), (s "_law_free_row" 1159), (s "/claim/cut.py" 1160), (i (377) 0), (i (2) 0), (i (0) 0), (i (0) 0), (i (3) 0), (r 697), (.bool true), (i (181) 0), (r 698), N, (r 699), (r 700), (r 701), (i (1168) 0), (i (377) 0), (s "/claim/cut.py" 1169)].toArray), [].toArray⟩
def JB : Ob := fO "_law_free_row" "_law_free_row" (ak 84) 3 "law_dunnage_k45_pages_written" 1119 702 0
def KR : Ob := tE
def QU : Ob := nE
def JY (P : Params) : Obj := ⟨(T "tuple"), none, (.seq [(s "_law_feed_here" 1174), (s "_law_names_here" 1175), (s "_law_many" 1176), (s "_law_rows" 1177), (s "_law_number" 1178), (s "_law_k" 1179), (s "_law_d" 1180)].toArray 0), [].toArray⟩
def MM : Ob := tE
def L4 : Ob := gO "_law_free_rows" "_law_free_rows" (ak 85)
def Ip (P : Params) : Obj := ⟨(T "code"), none, (.fields [(s "_law_free_rows" 1171), (s "_law_free_rows" 1172), (s "/claim/cut.py" 1173), (i (388) 0), (i (3) 0), (i (0) 0), (i (0) 0), (i (3) 0), (r 704), (.bool true), (i (181) 0), (r 705), N, (r 706), (r 707), (r 708), (i (1181) 0), (i (388) 0), (s "/claim/cut.py" 1182)].toArray), [].toArray⟩
def Jo : Ob := fO "_law_free_rows" "_law_free_rows" (ak 85) 3 "law_dunnage_k45_pages_written" 1119 709 0
def Mu : Ob := tE
def Qg : Ob := nE
def Lz (P : Params) : Obj := ⟨(T "tuple"), none, (.seq [(s "_law_script" 1187), (s "_law_feed_here" 1188), (s "_law_names_here" 1189), (s "_law_diary" 1190), (s "_law_rows" 1191), (s "_law_coming" 1192), (s "_law_number" 1193), (s "_law_day" 1194), (s "_law_deed" 1195), (s "_law_turn" 1196)].toArray 0), [].toArray⟩
def LX : Ob := tE
def LV : Ob := gO "law" "law" (ak 86)
def KU (P : Params) : Obj := ⟨(T "code"), none, (.fields [(s "law" 1184), (s "law" 1185), (s "/claim/cut.py" 1186), (i (396) 0), (i (1) 0), (i (0) 0), (i (0) 0), (i (3) 0), (r 711), (.bool true), (i (181) 0), (r 712), N, (r 713), (r 714), (r 715), (i (1197) 0), (i (396) 0), (s "/claim/cut.py" 1198)].toArray), [].toArray⟩
def IT : Ob := fO "law" "law" (ak 86) 3 "law_dunnage_k45_pages_written" 1119 716 0
def N9 (P : Params) : PySem.W.BT := (n (PySem.W.boot_o_0 P) (n (PySem.W.boot_o_1 P) (n (Ud P) (n (PySem.W.boot_o_7 P) (n (wG P) (n (w5 P) (n (D6 P) (n (oN P) (n (yW P) (y (QA P)) z) (n (BJ P) (y (KP P)) z)) (n (vd P) (n (Ak P) (y (Q3 P)) z) (n (QO P) (y (JB P)) z))) (n (C0 P) (n (rf P) (n (Bv P) (y (LP P)) z) (n (BQ P) (y (Qv P)) z)) (n (ng P) (n (yp P) (y (PR P)) z) (y (Rz P))))) (n (CZ P) (n (vU P) (n (uG P) (n (Fc P) (y (Ji P)) z) (n (Ar P) (y (IM P)) z)) (n (uL P) (n (EB P) (y (KH P)) z) (y (Sf P)))) (n (uW P) (n (oK P) (n (zL P) (y (SN P)) z) (n (Bo P) (y (JJ P)) z)) (n (xM P) (n (yb P) (y (Rq P)) z) (y (Jq P)))))) (n (Ds P) (n (BW P) (n (DS P) (n (uX P) (n (yH P) (y (IL P)) z) (n (FF P) (y (Lx P)) z)) (n (pA P) (n (Aw P) (y (K7 P)) z) (n (R6 P) (y (Mu P)) z))) (n (m6 P) (n (sH P) (n (AX P) (y (JV P)) z) (n (zz P) (y (LU P)) z)) (n (ug P) (n (yz P) (y (P7 P)) z) (y (Mi P))))) (n (vQ P) (n (CH P) (n (nK P) (n (Ei P) (y (O7 P)) z) (n (yN P) (y (JI P)) z)) (n (uM P) (n (Bc P) (y (SV P)) z) (y (PM P)))) (n (qT P) (n (uu P) (n (BC P) (y (SR P)) z) (n (EC P) (y (L7 P)) z)) (n (yu P) (n (xU P) (y (Sk P)) z) (y (Mc P))))))) (n (wZ P) (n (xj P) (n (D5 P) (n (vS P) (n (uz P) (n (Be P) (y (Ik P)) z) (n (Ac P) (y (Rc P)) z)) (n (tG P) (n (A6 P) (y (LY P)) z) (n (RM P) (y (MM P)) z))) (n (BY P) (n (oO P) (n (zu P) (y (PV P)) z) (n (FN P) (y (LL P)) z)) (n (uP P) (n (xy P) (y (Kg P)) z) (y (P4 P))))) (n (Dj P) (n (Dc P) (n (ux P) (n (yR P) (y (Ro P)) z) (n (AR P) (y (Q7 P)) z)) (n (o6 P) (n (Bf P) (y (RH P)) z) (y (JW P)))) (n (nX P) (n (uQ P) (n (Ew P) (y (Pz P)) z) (n (zC P) (y (MH P)) z)) (n (xB P) (n (zO P) (y (RP P)) z) (y (Im P)))))) (n (BZ P) (n (wA P) (n (CV P) (n (nv P) (n (xx P) (y (Io P)) z) (n (AK P) (y (Pn P)) z)) (n (uH P) (n (xY P) (y (S7 P)) z) (n (JG P) (y (LV P)) z))) (n (q8 P) (n (u7 P) (n (zS P) (y (Rm P)) z) (n (AA P) (y (O4 P)) z)) (n (rH P) (n (Eg P) (y (II P)) z) (y (Rr P))))) (n (Cs P) (n (w9 P) (n (tU P) (n (zE P) (y (PB P)) z) (n (zR P) (y (Ke P)) z)) (n (t9 P) (n (xJ P) (y (RV P)) z) (y (Tf P)))) (n (rg P) (n (nJ P) (n (xH P) (y (L3 P)) z) (n (QK P) (y (MC P)) z)) (n (AY P) (n (yj P) (y (Sv P)) z) (y (KY P)))))))) (n (PySem.W.boot_o_5 P) (n (PySem.W.boot_o_9 P) (n (vR P) (n (BU P) (n (DV P) (n (qL P) (n (Ej P) (y (Ie P)) z) (n (A8 P) (y (O5 P)) z)) (n (rY P) (n (ED P) (y (Qe P)) z) (n (QN P) (y (QU P)) z))) (n (CP P) (n (u0 P) (n (yF P) (y (Qk P)) z) (n (Bs P) (y (Iw P)) z)) (n (uC P) (n (yY P) (y (SH P)) z) (y (Ms P))))) (n (DF P) (n (C7 P) (n (uq P) (n (Ah P) (y (Iu P)) z) (n (xA P) (y (KS P)) z)) (n (tN P) (n (z0 P) (y (Ra P)) z) (y (Sy P)))) (n (qN P) (n (rQ P) (n (zF P) (y (R1 P)) z) (n (Et P) (y (J3 P)) z)) (n (yT P) (n (yI P) (y (Ly P)) z) (y (IE P)))))) (n (Eb P) (n (Df P) (n (DQ P) (n (tL P) (n (xS P) (y (Ls P)) z) (n (Bj P) (y (IY P)) z)) (n (rN P) (n (BP P) (y (R8 P)) z) (n (QT P) (y (Lz P)) z))) (n (qP P) (n (uK P) (n (xV P) (y (Tc P)) z) (n (AQ P) (y (Li P)) z)) (n (rB P) (n (BE P) (y (Qc P)) z) (y (QV P))))) (n (B5 P) (n (Dz P) (n (qV P) (n (AE P) (y (SA P)) z) (n (z6 P) (y (JC P)) z)) (n (sN P) (n (Aa P) (y (Qx P)) z) (y (JT P)))) (n (uy P) (n (sC P) (n (AO P) (y (Qi P)) z) (n (Q2 P) (y (I7 P)) z)) (n (BR P) (n (FJ P) (y (Ii P)) z) (y (Kv P))))))) (n (vZ P) (n (vP P) (n (C4 P) (n (Ct P) (n (tK P) (n (By P) (y (Jb P)) z) (n (yv P) (y (Jl P)) z)) (n (rT P) (n (ye P) (y (Rn P)) z) (n (Mh P) (y (Ip P)) z))) (n (qK P) (n (rC P) (n (FO P) (y (O6 P)) z) (n (AD P) (y (ML P)) z)) (n (vc P) (n (zg P) (y (RA P)) z) (y (Po P))))) (n (D7 P) (n (D8 P) (n (ue P) (n (yr P) (y (RX P)) z) (n (EV P) (y (JK P)) z)) (n (t8 P) (n (yG P) (y (Mb P)) z) (y (RU P)))) (n (sf P) (n (rL P) (n (zQ P) (y (J6 P)) z) (n (yU P) (y (Qj P)) z)) (n (E5 P) (n (yy P) (y (Ph P)) z) (y (P8 P)))))) (n (wY P) (n (Cg P) (n (CM P) (n (uf P) (n (AW P) (y (Q0 P)) z) (n (Ab P) (y (Ky P)) z)) (n (tP P) (n (yt P) (y (Sn P)) z) (n (Se P) (y (IT P)) z))) (n (qU P) (n (rR P) (n (Am P) (y (LS P)) z) (n (yi P) (y (LZ P)) z)) (n (xD P) (n (yX P) (y (PD P)) z) (y (QW P))))) (n (Cw P) (n (BV P) (n (sY P) (n (zK P) (y (Ry P)) z) (n (xG P) (y (Lq P)) z)) (n (sJ P) (n (EK P) (y (Jj P)) z) (y (RW P)))) (n (sW P) (n (uo P) (n (zN P) (y (Pb P)) z) (n (Ru P) (y (I5 P)) z)) (n (z7 P) (n (zp P) (y (Sw P)) z) (y (L5 P))))))))) (n (PySem.W.boot_o_2 P) (n (PySem.W.boot_o_4 P) (n (PySem.W.boot_o_8 P) (n (DI P) (n (vO P) (n (Dd P) (n (oj P) (n (zH P) (y (LA P)) z) (n (FQ P) (y (Ig P)) z)) (n (sZ P) (n (yP P) (y (SO P)) z) (n (RN P) (y (KR P)) z))) (n (C9 P) (n (rV P) (n (za P) (y (KA P)) z) (n (zA P) (y (Kx P)) z)) (n (oY P) (n (yM P) (y (SE P)) z) (y (KN P))))) (n (CF P) (n (wD P) (n (vh P) (n (A7 P) (y (My P)) z) (n (BO P) (y (JN P)) z)) (n (qO P) (n (yC P) (y (Qa P)) z) (y (Pe P)))) (n (rO P) (n (oX P) (n (zh P) (y (R7 P)) z) (n (xP P) (y (Qs P)) z)) (n (yf P) (n (AV P) (y (Qt P)) z) (y (KJ P)))))) (n (DM P) (n (Ck P) (n (Co P) (n (sG P) (n (E8 P) (y (Kh P)) z) (n (AL P) (y (JO P)) z)) (n (oZ P) (n (Ed P) (y (ME P)) z) (n (Rk P) (y (Qg P)) z))) (n (ni P) (n (ri P) (n (BD P) (y (Qm P)) z) (n (zV P) (y (Jp P)) z)) (n (uU P) (n (zm P) (y (Ql P)) z) (y (Jm P))))) (n (wK P) (n (B9 P) (n (o9 P) (n (zP P) (y (Pr P)) z) (n (xQ P) (y (Jy P)) z)) (n (rP P) (n (z8 P) (y (Rp P)) z) (y (QF P)))) (n (tZ P) (n (sE P) (n (yL P) (y (QG P)) z) (n (Te P) (y (Mg P)) z)) (n (zW P) (n (A4 P) (y (J0 P)) z) (y (Td P))))))) (n (Ua P) (n (wj P) (n (C6 P) (n (xg P) (n (r9 P) (n (yh P) (y (Lu P)) z) (n (BG P) (y (LM P)) z)) (n (rF P) (n (Ai P) (y (SX P)) z) (n (IA P) (y (L4 P)) z))) (n (um P) (n (nU P) (n (zJ P) (y (Q8 P)) z) (n (A3 P) (y (JA P)) z)) (n (uT P) (n (Fb P) (y (KW P)) z) (y (Tg P))))) (n (DZ P) (n (DG P) (n (tw P) (n (xu P) (y (Rf P)) z) (n (zb P) (y (Jh P)) z)) (n (pB P) (n (Ax P) (y (Q9 P)) z) (y (QH P)))) (n (pC P) (n (qX P) (n (zf P) (y (K9 P)) z) (n (Ba P) (y (Mp P)) z)) (n (yx P) (n (A5 P) (y (PN P)) z) (y (Jv P)))))) (n (Dw P) (n (vN P) (n (Cj P) (n (nQ P) (n (Bl P) (y (Mq P)) z) (n (xF P) (y (SJ P)) z)) (n (rM P) (n (yZ P) (y (R3 P)) z) (n (Le P) (y (KU P)) z))) (n (tM P) (n (tF P) (n (FT P) (y (PX P)) z) (n (Ad P) (y (IF P)) z)) (n (rJ P) (n (yo P) (y (Sz P)) z) (y (Q6 P))))) (n (C1 P) (n (we P) (n (rZ P) (n (yJ P) (y (P5 P)) z) (n (Fl P) (y (Lo P)) z)) (n (q6 P) (n (yV P) (y (KD P)) z) (y (To P)))) (n (uI P) (n (ou P) (n (yc P) (y (IJ P)) z) (n (QD P) (y (Kn P)) z)) (n (zY P) (n (xZ P) (y (QC P)) z) (y (Kl P)))))))) (n (PySem.W.boot_o_6 P) (n (PySem.W.boot_o_10 P) (n (wH P) (n (Cu P) (n (wo P) (n (rA P) (n (Bu P) (y (Ka P)) z) (n (zZ P) (y (O8 P)) z)) (n (u9 P) (n (Bw P) (y (LQ P)) z) (n (Si P) (y (JY P)) z))) (n (CQ P) (n (oQ P) (n (xo P) (y (SY P)) z) (n (zw P) (y (JH P)) z)) (n (sM P) (n (Bk P) (y (Py P)) z) (y (Sj P))))) (n (C2 P) (n (CI P) (n (uA P) (n (xR P) (y (Ml P)) z) (n (Aq P) (y (I0 P)) z)) (n (oU P) (n (y9 P) (y (Pk P)) z) (y (J8 P)))) (n (oE P) (n (uR P) (n (ya P) (y (Sq P)) z) (n (xr P) (y (KO P)) z)) (n (yg P) (n (ET P) (y (IX P)) z) (y (MF P)))))) (n (C5 P) (n (wI P) (n (DE P) (n (oF P) (n (BL P) (y (Ir P)) z) (n (BA P) (y (LK P)) z)) (n (tT P) (n (zM P) (y (QM P)) z) (n (RI P) (y (LX P)) z))) (n (sL P) (n (u6 P) (n (xq P) (y (QX P)) z) (n (Fx P) (y (Jz P)) z)) (n (sO P) (n (Ao P) (y (J5 P)) z) (y (RG P))))) (n (D4 P) (n (wV P) (n (qM P) (n (yS P) (y (RO P)) z) (n (zB P) (y (R4 P)) z)) (n (uJ P) (n (Br P) (y (S9 P)) z) (y (JP P)))) (n (tD P) (n (oV P) (n (FD P) (y (PZ P)) z) (n (QJ P) (y (QZ P)) z)) (n (EY P) (n (zD P) (y (SK P)) z) (y (LN P))))))) (n (wL P) (n (Ci P) (n (DP P) (n (Cq P) (n (sP P) (n (Av P) (y (Rg P)) z) (n (BI P) (y (MD P)) z)) (n (m9 P) (n (yE P) (y (Qp P)) z) (n (Tp P) (y (Jo P)) z))) (n (nk P) (n (rX P) (n (Ag P) (y (La P)) z) (n (Bm P) (y (Ri P)) z)) (n (tQ P) (n (AU P) (y (RK P)) z) (y (QI P))))) (n (xm P) (n (CN P) (n (nH P) (n (yq P) (y (Sb P)) z) (n (xC P) (y (Il P)) z)) (n (rW P) (n (Eu P) (y (I4 P)) z) (y (QB P)))) (n (uE P) (n (ua P) (n (Bx P) (y (RQ P)) z) (n (yd P) (y (MJ P)) z)) (n (yK P) (n (A9 P) (y (RC P)) z) (y (Pc P)))))) (n (wJ P) (n (DJ P) (n (wh P) (n (rS P) (n (zU P) (y (Ic P)) z) (n (Fv P) (y (PU P)) z)) (n (sj P) (n (xT P) (y (JL P)) z) (y (R5 P)))) (n (qY P) (n (nP P) (n (zX P) (y (Km P)) z) (n (BK P) (y (Lp P)) z)) (n (EE P) (n (Af P) (y (QY P)) z) (y (Ku P))))) (n (Cz P) (n (DU P) (n (tW P) (n (Ft P) (y (RY P)) z) (n (AF P) (y (LB P)) z)) (n (nG P) (n (Bq P) (y (PL P)) z) (y (Rx P)))) (n (nO P) (n (q9 P) (n (AH P) (y (PF P)) z) (n (Sx P) (y (IP P)) z)) (n (Bg P) (n (xE P) (y (RE P)) z) (y (Ju P))))))))))
abbrev prog : Program := R.prog
def body : List Stmt := behindTheImports prog
def mK : Env := { scope := prog.main.scope, locals := mainNs, globals := mainNs, cells := [], code := (r 13), frame := some 14 }
def cd : Code := .body body mK
def ann : Option Value := some (r 6)
abbrev fr : List Frame := [PySem.W.topFrame ⟨0, 0, 0, 0⟩]
def S0 (w : World) (os : OsState) : PySem.W.SharedT := ⟨Uc w.params, 15, {}, #[], ⟨0, 0, 0, 0⟩, 187, os⟩
def S1 (w : World) (os : OsState) : PySem.W.SharedT := ⟨Uo w.params, 227, {}, #[], ⟨0, 0, 0, 0⟩, 482, os⟩
def S2 (w : World) (os : OsState) : PySem.W.SharedT := ⟨Um w.params, 237, {}, #[], ⟨0, 0, 0, 0⟩, 526, os⟩
def S3 (w : World) (os : OsState) : PySem.W.SharedT := ⟨UH w.params, 439, {}, #[], ⟨0, 0, 0, 0⟩, 799, os⟩
def S4 (w : World) (os : OsState) : PySem.W.SharedT := ⟨UN w.params, 440, {}, #[], ⟨0, 0, 0, 0⟩, 818, os⟩
def S5 (w : World) (os : OsState) : PySem.W.SharedT := ⟨N9 w.params, 718, {}, #[], ⟨0, 0, 0, 0⟩, 1200, os⟩
theorem pre (w : World) (os : OsState) : PySem.W.topGo treeTable prog w 11 ann 12 ⟨PySem.W.boot_heap w.params, Array.mk [], PySem.W.boot_drawn, PySem.W.boot_toks, os⟩ (PySem.W.topStub prog) = some ((S0 w os).abs, ⟨denote treeTable cd, cd, ⟨0, 0, 0, 0⟩, fr⟩) := by kernel_rfl
theorem block (w : World) (os : OsState) : PySem.W.segRun treeTable prog w 11 ann 1 1 (S0 w os).abs (PySem.W.blockOf body mK cd ⟨0, 0, 0, 0⟩ fr) = some (.next, (S0 w os).abs, cd, ⟨0, 0, 0, 0⟩) := by kernel_rfl
def l1 : List Stmt := (body.drop 0).take 25
theorem part1 (w : World) (os : OsState) : HX.seg (HandSHeadRun.stepQ (HandSHeadRun.denQ HandSHeadRun.tabQ) prog w) 11 ann 3687 (S0 w os) (PySem.W.piecesOf l1 mK cd ⟨0, 0, 0, 0⟩ fr) = some (S1 w os, cd, ⟨44, 0, 44, 15⟩) := by kernel_rfl
def l2 : List Stmt := (body.drop 25).take 1
theorem O9 (w : World) (os : OsState) : HX.seg (HandSHeadRun.stepQ (HandSHeadRun.denQ HandSHeadRun.tabQ) prog (w.withFollow "special-get-raises" false)) 11 ann 180 (S1 (w.withFollow "special-get-raises" false) os) (PySem.W.piecesOf l2 mK cd ⟨44, 0, 44, 15⟩ fr) = some (S2 (w.withFollow "special-get-raises" false) os, cd, ⟨45, 0, 45, 11⟩) := by kernel_rfl
theorem Rl (w : World) (os : OsState) : HX.seg (HandSHeadRun.stepQ (HandSHeadRun.denQ HandSHeadRun.tabQ) prog (w.withFollow "special-get-raises" true)) 11 ann 180 (S1 (w.withFollow "special-get-raises" true) os) (PySem.W.piecesOf l2 mK cd ⟨44, 0, 44, 15⟩ fr) = some (S2 (w.withFollow "special-get-raises" true) os, cd, ⟨45, 0, 45, 11⟩) := by kernel_rfl
theorem part2 (w : World) (os : OsState) : HX.seg (HandSHeadRun.stepQ (HandSHeadRun.denQ HandSHeadRun.tabQ) prog w) 11 ann 180 (S1 w os) (PySem.W.piecesOf l2 mK cd ⟨44, 0, 44, 15⟩ fr) = some (S2 w os, cd, ⟨45, 0, 45, 11⟩) := PySem.W.byRow2 "special-get-raises" (P := fun w => HX.seg (HandSHeadRun.stepQ (HandSHeadRun.denQ HandSHeadRun.tabQ) prog w) 11 ann 180 (S1 w os) (PySem.W.piecesOf l2 mK cd ⟨44, 0, 44, 15⟩ fr) = some (S2 w os, cd, ⟨45, 0, 45, 11⟩)) (fun w => O9 w os) (fun w => Rl w os) w
def l3 : List Stmt := (body.drop 26).take 36
theorem part3 (w : World) (os : OsState) : HX.seg (HandSHeadRun.stepQ (HandSHeadRun.denQ HandSHeadRun.tabQ) prog w) 11 ann 965 (S2 w os) (PySem.W.piecesOf l3 mK cd ⟨45, 0, 45, 11⟩ fr) = some (S3 w os, cd, ⟨186, 0, 188, 28⟩) := by kernel_rfl
def l4 : List Stmt := (body.drop 62).take 1
theorem RJ (w : World) (os : OsState) : HX.seg (HandSHeadRun.stepQ (HandSHeadRun.denQ HandSHeadRun.tabQ) prog (w.withFollow "special-get-raises" false)) 11 ann 155 (S3 (w.withFollow "special-get-raises" false) os) (PySem.W.piecesOf l4 mK cd ⟨186, 0, 188, 28⟩ fr) = some (S4 (w.withFollow "special-get-raises" false) os, cd, ⟨189, 0, 189, 7⟩) := by kernel_rfl
theorem Pp (w : World) (os : OsState) : HX.seg (HandSHeadRun.stepQ (HandSHeadRun.denQ HandSHeadRun.tabQ) prog (w.withFollow "special-get-raises" true)) 11 ann 155 (S3 (w.withFollow "special-get-raises" true) os) (PySem.W.piecesOf l4 mK cd ⟨186, 0, 188, 28⟩ fr) = some (S4 (w.withFollow "special-get-raises" true) os, cd, ⟨189, 0, 189, 7⟩) := by kernel_rfl
theorem part4 (w : World) (os : OsState) : HX.seg (HandSHeadRun.stepQ (HandSHeadRun.denQ HandSHeadRun.tabQ) prog w) 11 ann 155 (S3 w os) (PySem.W.piecesOf l4 mK cd ⟨186, 0, 188, 28⟩ fr) = some (S4 w os, cd, ⟨189, 0, 189, 7⟩) := PySem.W.byRow2 "special-get-raises" (P := fun w => HX.seg (HandSHeadRun.stepQ (HandSHeadRun.denQ HandSHeadRun.tabQ) prog w) 11 ann 155 (S3 w os) (PySem.W.piecesOf l4 mK cd ⟨186, 0, 188, 28⟩ fr) = some (S4 w os, cd, ⟨189, 0, 189, 7⟩)) (fun w => RJ w os) (fun w => Pp w os) w
def l5 : List Stmt := (body.drop 63).take 24
theorem part5 (w : World) (os : OsState) : HX.seg (HandSHeadRun.stepQ (HandSHeadRun.denQ HandSHeadRun.tabQ) prog w) 11 ann 1636 (S4 w os) (PySem.W.piecesOf l5 mK cd ⟨189, 0, 189, 7⟩ fr) = some (S5 w os, cd, ⟨396, 0, 420, 120⟩) := by kernel_rfl
theorem NP : body = (l1 ++ (l2 ++ (l3 ++ (l4 ++ (l5 ++ []))))) := by kernel_rfl
theorem fin (w : World) (os : OsState) : PySem.W.topRun treeTable prog w 11 ann 3 (S5 w os).abs ⟨PySem.W.doneF .next, cd, ⟨396, 0, 420, 120⟩, fr⟩ = some (S5 w os).abs := by kernel_rfl
theorem run (w : World) (os : OsState) : PySem.W.topRun treeTable prog w 11 ann 6639 ⟨PySem.W.boot_heap w.params, Array.mk [], PySem.W.boot_drawn, PySem.W.boot_toks, os⟩ (PySem.W.topStub prog) = some (S5 w os).abs := by
  have a : PySem.W.topRun treeTable prog w 11 ann _ (S0 w os).abs (PySem.W.restOf (l1 ++ (l2 ++ (l3 ++ (l4 ++ (l5 ++ []))))) mK cd ⟨0, 0, 0, 0⟩ fr) = some (S5 w os).abs := (HX.part (part1 w os) (HX.part (part2 w os) (HX.part (part3 w os) (HX.part (part4 w os) (HX.part (part5 w os) (PySem.W.piece_nil (fin w os)))))))
  rw [← NP] at a
  exact PySem.W.go_top (pre w os) (PySem.W.piece_block (block w os) a)
theorem looks (w : World) (os : OsState) : (PySem.W.staticsOk (importedModules prog.main.body) (PySem.W.boot_heap w.params) (S5 w os).abs.heap && PySem.W.namesBound prog (S5 w os).abs.heap && PySem.W.gensDone (S5 w os).abs && PySem.W.laidKept (PySem.W.boot_heap w.params) (S5 w os).abs.heap) = true := by kernel_rfl
theorem seenQ (w : World) (os : OsState) : HandSHeadRun.seenQ (PySem.W.view R.prog [86]) loose (importedModules prog.main.body) (fun s => PySem.W.xlAt (PySem.W.view R.prog [86]) [] s && PySem.W.recOk R.toRowW.records s) (S5 w os).abs = PySem.W.openGood (PySem.W.view R.prog [86]) loose := by kernel_rfl
def K0 (P : Params) : PySem.W.Frag := [(3, Ud P), (6, PySem.W.boot_o_6 P), (4, PySem.W.boot_o_4 P), (21, vP P), (31, w5 P), (44, vN P), (56, wK P), (68, xg P), (80, wD P), (92, we P), (104, ni P), (116, pC P), (128, oj P), (140, nQ P), (152, o9 P), (164, nU P), (176, oX P), (188, ou P), (200, oZ P), (212, pB P), (224, oY P), (227, uP P), (243, xB P), (248, zW P), (255, yW P), (262, Av P), (269, AW P), (276, xu P), (277, yr P), (284, yJ P), (291, zu P), (298, xq P), (305, zF P), (312, yL P), (319, Ak P), (326, yE P), (333, yt P), (340, Ax P), (347, xJ P), (354, Bk P), (361, BE P), (368, AV P), (375, xU P), (382, xE P), (389, yv P), (396, xF P), (403, AR P), (410, zB P), (417, Bs P), (424, zV P), (431, Bo P), (438, yd P), (439, EC P), (498, MF P), (509, L5 P), (516, Lu P), (523, Io P), (530, Ml P), (648, JO P), (657, KS P)]
def K1 (P : Params) : PySem.W.Frag := [(664, Jy P), (669, Lq P), (676, JA P), (681, Li P), (686, Lp P), (691, MH P), (696, Mg P), (703, JB P), (710, Jo P), (717, IT P), (0, PySem.W.boot_o_0 P), (20, wj P), (30, wJ P), (43, wA P), (55, vQ P), (67, vS P), (79, vU P), (91, w9 P), (103, m6 P), (115, nX P), (127, oN P), (139, nv P), (151, nK P), (163, oO P), (175, oK P), (187, nJ P), (199, pA P), (211, o6 P), (223, ng P), (228, uT P), (229, vc P), (230, tQ P), (231, ug P), (232, uU P), (233, rB P), (234, sO P), (235, rH P), (236, rJ P), (242, yg P), (247, yu P), (254, Bg P), (261, By P), (268, Bl P), (275, yR P), (283, zE P), (290, xo P), (297, xV P), (304, zh P), (311, BC P), (318, AH P), (325, ye P), (332, yZ P), (339, Bf P), (346, Br P), (353, yY P), (360, zm P), (367, yb P), (374, A9 P), (381, zp P), (388, BG P)]
def K2 (P : Params) : PySem.W.Frag := [(395, AK P), (402, Aq P), (409, z6 P), (416, zA P), (423, zz P), (430, BK P), (437, yU P), (497, IE P), (508, Kl P), (515, Ik P), (522, Ir P), (529, Iu P), (647, Lx P), (656, JN P), (663, JI P), (668, Lo P), (675, LL P), (680, Jp P), (685, LZ P), (690, KO P), (695, L7 P), (702, IP P), (709, Ip P), (716, KU P), (15, wG P), (17, vR P), (18, wH P), (19, xj P), (29, wY P), (32, vO P), (42, wI P), (54, xm P), (66, wo P), (78, wh P), (90, wV P), (102, nk P), (114, oE P), (126, nO P), (138, oF P), (150, nH P), (162, oQ P), (174, nP P), (186, oV P), (198, m9 P), (210, oU P), (222, nG P), (237, xD P), (239, xM P), (240, yf P), (241, yT P), (244, yx P), (246, yK P), (249, BR P), (251, AY P), (252, zY P), (253, z7 P), (256, zH P), (258, Bu P), (259, Be P), (260, yh P)]
def K3 (P : Params) : PySem.W.Frag := [(263, yH P), (265, xS P), (266, BL P), (267, xx P), (270, zU P), (272, A7 P), (273, Ah P), (274, xR P), (278, yq P), (280, zP P), (281, AE P), (282, yS P), (285, zK P), (287, Bv P), (288, za P), (289, yF P), (292, zJ P), (294, Ag P), (295, AX P), (296, BD P), (299, zS P), (301, Am P), (302, zX P), (303, zL P), (306, ya P), (308, zf P), (309, zQ P), (310, Bx P), (313, AO P), (315, xH P), (316, yc P), (317, zN P), (320, yP P), (322, Bw P), (323, A6 P), (324, Ai P), (327, Aw P), (329, BP P), (330, zM P), (331, xY P), (334, xT P), (336, yC P), (337, z0 P), (338, y9 P), (341, yG P), (343, Bc P), (344, z8 P), (345, Aa P), (348, yV P), (350, Bq P), (351, yp P), (352, yM P), (355, xy P), (357, zg P), (358, AU P), (359, yz P), (362, Ao P), (364, yo P), (365, yX P), (366, Af P)]
def K4 (P : Params) : PySem.W.Frag := [(369, yI P), (371, zO P), (372, A5 P), (373, yy P), (376, A4 P), (378, zD P), (379, yj P), (380, xZ P), (383, BJ P), (385, A8 P), (386, zZ P), (387, Ac P), (390, BI P), (392, AL P), (393, Bj P), (394, BA P), (397, Ab P), (399, Ar P), (400, BO P), (401, xA P), (404, zb P), (406, xC P), (407, yN P), (408, xQ P), (411, zR P), (413, xG P), (414, AF P), (415, BQ P), (418, zw P), (420, A3 P), (421, AD P), (422, Bm P), (425, AQ P), (427, AA P), (428, Ad P), (429, yi P), (432, xP P), (434, xr P), (435, zC P), (436, Ba P), (453, Mh P), (460, Le P), (467, JW P), (474, JP P), (481, Ms P), (488, Jm P), (495, Jq P), (496, KJ P), (499, Im P), (500, Jv P), (503, Mc P), (505, Kv P), (506, LN P), (507, KY P), (510, Ju P), (512, LA P), (513, Ie P), (514, Ka P), (517, Jb P), (519, IL P)]
def K5 (P : Params) : PySem.W.Frag := [(520, Kh P), (521, Ls P), (524, Mq P), (526, Ic P), (527, Ji P), (528, My P), (544, KA P), (551, JV P), (558, Km P), (565, J6 P), (572, IJ P), (579, LY P), (584, ME P), (591, KH P), (598, I4 P), (605, Jj P), (612, KW P), (619, II P), (626, IX P), (633, Ii P), (640, Ig P), (645, Jl P), (646, MD P), (649, IY P), (650, LK P), (653, Ky P), (655, IM P), (658, I0 P), (660, Jh P), (661, JK P), (662, Il P), (665, JC P), (667, Ke P), (670, LB P), (672, Kx P), (673, Iw P), (674, JH P), (677, ML P), (679, LU P), (682, Jz P), (684, IF P), (687, JJ P), (689, J3 P), (692, Mp P), (694, MJ P), (697, I7 P), (699, MC P), (700, Kn P), (701, I5 P), (704, KR P), (706, JY P), (707, MM P), (708, L4 P), (711, Mu P), (713, Lz P), (714, LX P), (715, LV P), (452, IA P), (459, JG P), (466, J8 P)]
def K6 (P : Params) : PySem.W.Frag := [(473, JT P), (480, KN P), (487, Mi P), (494, Ku P), (543, LP P), (550, La P), (557, LS P), (564, K9 P), (571, L3 P), (578, LQ P), (583, K7 P), (590, JL P), (597, Mb P), (604, KD P), (611, Kg P), (618, J5 P), (625, Ly P), (632, J0 P), (639, KP P), (644, LM P)]
def KZ (P : Params) : PySem.W.Frag := K0 P ++ (K1 P ++ (K2 P ++ (K3 P ++ (K4 P ++ (K5 P ++ (K6 P))))))
def ks : List Addr := [3, 6, 4, 21, 31, 44, 56, 68, 80, 92, 104, 116, 128, 140, 152, 164, 176, 188, 200, 212, 224, 227, 243, 248, 255, 262, 269, 276, 277, 284, 291, 298, 305, 312, 319, 326, 333, 340, 347, 354, 361, 368, 375, 382, 389, 396, 403, 410, 417, 424, 431, 438, 439, 498, 509, 516, 523, 530, 648, 657, 664, 669, 676, 681, 686, 691, 696, 703, 710, 717, 0, 20, 30, 43, 55, 67, 79, 91, 103, 115, 127, 139, 151, 163, 175, 187, 199, 211, 223, 228, 229, 230, 231, 232, 233, 234, 235, 236, 242, 247, 254, 261, 268, 275, 283, 290, 297, 304, 311, 318, 325, 332, 339, 346, 353, 360, 367, 374, 381, 388, 395, 402, 409, 416, 423, 430, 437, 497, 508, 515, 522, 529, 647, 656, 663, 668, 675, 680, 685, 690, 695, 702, 709, 716, 15, 17, 18, 19, 29, 32, 42, 54, 66, 78, 90, 102, 114, 126, 138, 150, 162, 174, 186, 198, 210, 222, 237, 239, 240, 241, 244, 246, 249, 251, 252, 253, 256, 258, 259, 260, 263, 265, 266, 267, 270, 272, 273, 274, 278, 280, 281, 282, 285, 287, 288, 289, 292, 294, 295, 296, 299, 301, 302, 303, 306, 308, 309, 310, 313, 315, 316, 317, 320, 322, 323, 324, 327, 329, 330, 331, 334, 336, 337, 338, 341, 343, 344, 345, 348, 350, 351, 352, 355, 357, 358, 359, 362, 364, 365, 366, 369, 371, 372, 373, 376, 378, 379, 380, 383, 385, 386, 387, 390, 392, 393, 394, 397, 399, 400, 401, 404, 406, 407, 408, 411, 413, 414, 415, 418, 420, 421, 422, 425, 427, 428, 429, 432, 434, 435, 436, 453, 460, 467, 474, 481, 488, 495, 496, 499, 500, 503, 505, 506, 507, 510, 512, 513, 514, 517, 519, 520, 521, 524, 526, 527, 528, 544, 551, 558, 565, 572, 579, 584, 591, 598, 605, 612, 619, 626, 633, 640, 645, 646, 649, 650, 653, 655, 658, 660, 661, 662, 665, 667, 670, 672, 673, 674, 677, 679, 682, 684, 687, 689, 692, 694, 697, 699, 700, 701, 704, 706, 707, 708, 711, 713, 714, 715, 452, 459, 466, 473, 480, 487, 494, 543, 550, 557, 564, 571, 578, 583, 590, 597, 604, 611, 618, 625, 632, 639, 644]
theorem TY (P : Params) : (KZ P).map (fun x => x.1) = ks := by kernel_rfl
theorem a0 (w : World) : (VW.all fun f => f.ok (KZ w.params)) = true := by kernel_rfl
theorem a1 (w : World) : (VA.all fun f => f.ok (KZ w.params)) = true := by kernel_rfl
theorem a2 (w : World) : (VG.all fun f => f.ok (KZ w.params)) = true := by kernel_rfl
theorem a3 (w : World) : (V1.all fun f => f.ok (KZ w.params)) = true := by kernel_rfl
theorem a4 (w : World) : (VO.all fun f => f.ok (KZ w.params)) = true := by kernel_rfl
theorem a5 (w : World) : (VE.all fun f => f.ok (KZ w.params)) = true := by kernel_rfl
theorem b0 (w : World) : (UQ.all fun d => d.ok (KZ w.params)) = true := by kernel_rfl
theorem c0 (w : World) : (UQ.map fun d => He.fnW (KZ w.params) d.at_) = UQ.map He.DefD.val := by kernel_rfl
theorem b1 (w : World) : (U3.all fun d => d.ok (KZ w.params)) = true := by kernel_rfl
theorem c1 (w : World) : (U3.map fun d => He.fnW (KZ w.params) d.at_) = U3.map He.DefD.val := by kernel_rfl
theorem b2 (w : World) : (US.all fun d => d.ok (KZ w.params)) = true := by kernel_rfl
theorem c2 (w : World) : (US.map fun d => He.fnW (KZ w.params) d.at_) = US.map He.DefD.val := by kernel_rfl
theorem Tv (w : World) : (ts.map fun t => He.dicW (KZ w.params) (t.1 (KZ w.params))) = ts.map fun t => some (He.keysIn w.params t.2) := by kernel_rfl
theorem Uq (w : World) : ex (KZ w.params) = true := by kernel_rfl
theorem says (w : World) (h : Heap) : He.SaysX fa fn ts [] ex w h (KZ w.params) :=
  HX.NC (show (fa.all fun f => f.ok (KZ w.params)) = true from (HX.jB (HX.jB (HX.jB (HX.jB (HX.jB (a0 w) (a1 w)) (a2 w)) (a3 w)) (a4 w)) (a5 w))) (show (fn.all fun d => d.ok (KZ w.params)) = true from (HX.jB (HX.jB (b0 w) (b1 w)) (b2 w))) (show (fn.map fun d => He.fnW (KZ w.params) d.at_) = fn.map He.DefD.val from (HX.GY (HX.GY (c0 w) (c1 w)) (c2 w))) (Tv w) (Uq w)
abbrev hk : PySem.W.Hook := HX.hook fa fn ts ex KZ ks TY says
theorem Vn (w : World) (os : OsState) : ks.map (HandSHeadRun.getT (S5 w os)) = (KZ w.params).map fun x => some x.2 := by kernel_rfl
theorem obs (w : World) (os : OsState) : hk.obs (S5 w os).abs = hk.val w := HX.get_eq (Vn w os)
theorem size (w : World) : ((PySem.W.boot_heap w.params).isNs mainGlobals && (Array.mk [] : Array GenState).size == 0, (PySem.W.boot_heap w.params).objs.size, (PySem.W.boot_heap w.params).nsMap mainGlobals "__annotations__") = (true, 11, ann) := by kernel_rfl
theorem left : PySem.W.LeftO R.prog (PySem.W.view R.prog [86]) loose (fun s => PySem.W.xlAt (PySem.W.view R.prog [86]) [] s && PySem.W.recOk R.toRowW.records s) hk.obs hk.val 7239 true :=
  PySem.W.LeftO.of_pieces (H₁ := fun P => PySem.W.absHeap (N9 P) 718 {}) (gs₁ := #[]) (d₁ := ⟨0, 0, 0, 0⟩) (k₁ := 1200) (M := 6639)
    (PySem.W.boot_open (by kernel_rfl) (by decide) (fun s => by kernel_rfl)) size run (by decide)
    (fun w => funext fun os => Prod.ext (looks w os) (Prod.ext ((HandSHeadRun.seenQ_eq _ _ _ _ _).trans (seenQ w os)) (obs w os)))
end
end
end HD
end
namespace DY
open PySem PySem.Spec PyProof.Rows L2
abbrev UW := Int × Int × Int
abbrev P6 := Int × Int × Int × Int
abbrev EM := Str × Int × Int
abbrev Tt := Str × Str × Int
structure Yd where
  tr : List (Str × UW)
  bo : List (Str × P6)
  sa : List (Str × EM)
  co : List (Str × Tt)
def VZ (x : UW) : List V := [.int x.1, .int x.2.1, .int x.2.2]
def VT (x : P6) : List V := [.int x.1, .int x.2.1, .int x.2.2.1, .int x.2.2.2]
def VU (x : EM) : List V := [.str x.1, .int x.2.1, .int x.2.2]
def VX (x : Tt) : List V := [.str x.1, .str x.2.1, .int x.2.2]
inductive Rows {α : Type} (H : Hp) (f : Str → α → List V) : List (Key × V) → List (Str × α) → Prop
  | nil : Rows H f [] []
  | cons {n : Str} {x : α} {p : Addr} {kvs : List (Key × V)} {T : List (Str × α)} (h : H p = some (.tup (f n x))) (r : Rows H f kvs T) : Rows H f ((Sum.inr n, .ref p) :: kvs) ((n, x) :: T)
def TS (H H' : Hp) : Prop := ∀ p xs, H p = some (.tup xs) → H' p = some (.tup xs)
theorem TS.of {H H' : Hp} (s : Same H H') : TS H H' := fun p xs e => s _ _ e
theorem TS.upd {H : Hp} {a : Addr} {o : HO} (h : ∀ xs, H a ≠ some (.tup xs)) : TS H (L2.upd H a o) := fun p xs e => by
  rw [upd_ne (fun z => h xs (by rw [← z]; exact e))]
  exact e
theorem TS.trans {H1 H2 H3 : Hp} (a : TS H1 H2) (b : TS H2 H3) : TS H1 H3 := fun p xs e => b _ _ (a _ _ e)
section
variable {α : Type} {H H' : Hp} {f : Str → α → List V} {kvs : List (Key × V)} {T : List (Str × α)}
theorem Rows.keep (s : TS H H') (r : Rows H f kvs T) : Rows H' f kvs T := by
  induction r with
  | nil => exact .nil
  | cons h _ ih => exact .cons (s _ _ h) ih
theorem Rows.len (r : Rows H f kvs T) : kvs.length = T.length := by
  induction r with
  | nil => rfl
  | cons h _ ih => rw [List.length_cons, List.length_cons, ih]
theorem Rows.keys (r : Rows H f kvs T) : kvs.map (·.1) = (T.map (·.1)).map Sum.inr := by
  induction r with
  | nil => rfl
  | cons h _ ih => rw [List.map_cons, List.map_cons, List.map_cons, ih]
def getT (T : List (Str × α)) (n : Str) : Option α := (T.find? fun q => decide (q.1 = n)).map (·.2)
def dw (T : List (Str × α)) (n : Str) : Bool := (getT T n).isSome
theorem Rows.get (r : Rows H f kvs T) (n : Str) : (valV kvs (Sum.inr n) = none ∧ getT T n = none) ∨ ∃ p x, valV kvs (Sum.inr n) = some (.ref p) ∧ getT T n = some x ∧ H p = some (.tup (f n x)) := by
  induction r with
  | nil => exact .inl ⟨rfl, rfl⟩
  | @cons m x p kvs T h _ ih =>
    by_cases e : m = n
    · subst e
      exact .inr ⟨p, x, valV_pos rfl, by simp [getT], h⟩
    · have e1 : ¬ (Sum.inr m : Key) = Sum.inr n := fun z => e (Sum.inr.inj z)
      rw [valV_neg (p := (Sum.inr m, V.ref p)) e1]
      have e2 : getT ((m, x) :: T) n = getT T n := by simp [getT, e]
      rw [e2]
      exact ih
theorem Rows.has (r : Rows H f kvs T) (n : Str) : (valV kvs (Sum.inr n)).isSome = dw T n := by
  unfold dw
  rcases r.get n with ⟨h1, h2⟩ | ⟨p, x, h1, h2, _⟩
  · rw [h1, h2]
    rfl
  · rw [h1, h2]
    rfl
theorem Rows.snoc {n : Str} {x : α} {p : Addr} (r : Rows H f kvs T) (h : H p = some (.tup (f n x))) : Rows H f (kvs ++ [(Sum.inr n, .ref p)]) (T ++ [(n, x)]) := by
  induction r with
  | nil => exact .cons h .nil
  | cons h0 _ ih => exact .cons h0 ih
end
abbrev Wt (n : Str) (x : UW) : List V := .str n :: VZ x
abbrev VY (n : Str) (x : P6) : List V := .str n :: VT x
abbrev Wi (n : Str) (x : EM) : List V := .str n :: VU x
abbrev VJ (n : Str) (x : Tt) : List V := .str n :: VX x
structure YA where
  y : Addr
  b : Addr
  t : Addr
  s : Addr
  c : Addr
def Ur (A : YA) : List (Str × V) := [("board_rows", .ref A.b), ("trestle_rows", .ref A.t), ("sack_rows", .ref A.s), ("cord_rows", .ref A.c)]
structure JX (C : Addr) (A : YA) (H : Hp) (Y : Yd) : Prop where
  ob : ∃ dx, H A.y = some (.ins C dx (Ur A))
  bo : ∃ kvs, H A.b = some (.dK kvs) ∧ Rows H VY kvs Y.bo
  tr : ∃ kvs, H A.t = some (.dK kvs) ∧ Rows H Wt kvs Y.tr
  sa : ∃ kvs, H A.s = some (.dK kvs) ∧ Rows H Wi kvs Y.sa
  co : ∃ kvs, H A.c = some (.dK kvs) ∧ Rows H VJ kvs Y.co
  nd : A.b ≠ A.t ∧ A.b ≠ A.s ∧ A.b ≠ A.c ∧ A.t ≠ A.s ∧ A.t ≠ A.c ∧ A.s ≠ A.c
  le : Y.tr.length ≤ 6 ∧ Y.bo.length ≤ 6 ∧ Y.sa.length ≤ 8 ∧ Y.co.length ≤ 4
theorem JX.keep {C : Addr} {A : YA} {H H' : Hp} {Y : Yd} (h : JX C A H Y) (s : Same H H') : JX C A H' Y := by
  obtain ⟨⟨dx, e⟩, ⟨k1, e1, r1⟩, ⟨k2, e2, r2⟩, ⟨k3, e3, r3⟩, ⟨k4, e4, r4⟩, nd, le⟩ := h
  exact ⟨⟨dx, s _ _ e⟩, ⟨k1, s _ _ e1, r1.keep (.of s)⟩, ⟨k2, s _ _ e2, r2.keep (.of s)⟩, ⟨k3, s _ _ e3, r3.keep (.of s)⟩, ⟨k4, s _ _ e4, r4.keep (.of s)⟩, nd, le⟩
def Ul (A : YA) (p : Addr) : Prop := p = A.y ∨ p = A.b ∨ p = A.t ∨ p = A.s ∨ p = A.c
inductive EW (C : Addr) (H : Hp) : List YA → List Yd → Prop
  | nil : EW C H [] []
  | cons {A : YA} {Y : Yd} {As : List YA} {Ys : List Yd} : JX C A H Y → (∀ B ∈ As, ∀ p, Ul A p → ¬ Ul B p) → EW C H As Ys → EW C H (A :: As) (Y :: Ys)
theorem EW.keep {C : Addr} {H H' : Hp} (s : Same H H') {As : List YA} {Ys : List Yd} (h : EW C H As Ys) : EW C H' As Ys := by
  induction h with
  | nil => exact .nil
  | cons h1 h2 _ ih => exact .cons (h1.keep s) h2 ih
abbrev bN := Int × List Key
structure Di where
  es : List (Int × bN)
  fo : Int
  ch : List (Int × Option bN × Option bN)
  ba : List (Int × Option bN × Option bN)
def HC (H : Hp) (v : V) (e : bN) : Prop := ∃ p q, v = .ref p ∧ H p = some (.tup [.int e.1, .ref q]) ∧ H q = some (.tup (e.2.map kV))
def EH (H : Hp) (v : V) : Option bN → Prop
  | none => v = .non
  | some e => HC H v e
inductive bC (H : Hp) : List (Key × V) → List (Int × bN) → Prop
  | nil : bC H [] []
  | cons {n : Int} {v : V} {e : bN} {kvs : List (Key × V)} {T : List (Int × bN)} : HC H v e → bC H kvs T → bC H ((Sum.inl n, v) :: kvs) ((n, e) :: T)
inductive di (H : Hp) : List V → List (Int × Option bN × Option bN) → Prop
  | nil : di H [] []
  | cons {n : Int} {p : Addr} {a b : V} {x y : Option bN} {vs : List V} {T : List (Int × Option bN × Option bN)} : H p = some (.tup [.int n, a, b]) → EH H a x → EH H b y → di H vs T → di H (.ref p :: vs) ((n, x, y) :: T)
structure DA where
  q : Addr
  e : Addr
  c : Addr
  b : Addr
def dS (A : DA) (fo : Int) : List (Str × V) := [("entries", .ref A.e), ("following", .int fo), ("changes", .ref A.c), ("changes_taken_back", .ref A.b)]
structure IsD (C : Addr) (A : DA) (H : Hp) (D : Di) : Prop where
  ob : ∃ dx, H A.q = some (.ins C dx (dS A D.fo))
  es : ∃ kvs, H A.e = some (.dK kvs) ∧ bC H kvs D.es
  ch : ∃ vs, H A.c = some (.lst vs) ∧ di H vs D.ch
  ba : ∃ vs, H A.b = some (.lst vs) ∧ di H vs D.ba
  nd : A.c ≠ A.b
  le : D.es.length ≤ 1000 ∧ D.ch.length ≤ 1000 ∧ D.ba.length ≤ 1000
theorem HC.keep {H H' : Hp} (s : TS H H') {v : V} {e : bN} (h : HC H v e) : HC H' v e := by
  obtain ⟨p, q, h1, h2, h3⟩ := h
  exact ⟨p, q, h1, s _ _ h2, s _ _ h3⟩
theorem EH.keep {H H' : Hp} (s : TS H H') {v : V} : ∀ {e : Option bN}, EH H v e → EH H' v e
  | none, h => h
  | some _, h => HC.keep s h
theorem bC.keep {H H' : Hp} (s : TS H H') {kvs : List (Key × V)} {T : List (Int × bN)} (h : bC H kvs T) : bC H' kvs T := by
  induction h with
  | nil => exact .nil
  | cons h1 _ ih => exact .cons (h1.keep s) ih
theorem di.keep {H H' : Hp} (s : TS H H') {vs : List V} {T : List (Int × Option bN × Option bN)} (h : di H vs T) : di H' vs T := by
  induction h with
  | nil => exact .nil
  | cons h0 h1 h2 _ ih => exact .cons (s _ _ h0) (h1.keep s) (h2.keep s) ih
def j6 (A : DA) (p : Addr) : Prop := p = A.q ∨ p = A.e ∨ p = A.c ∨ p = A.b
theorem IsD.to {C : Addr} {A : DA} {H H' : Hp} {D : Di} (h : IsD C A H D) (s : TS H H') (k : ∀ p o, j6 A p → H p = some o → H' p = some o) : IsD C A H' D := by
  obtain ⟨⟨dx, e⟩, ⟨k1, e1, r1⟩, ⟨k2, e2, r2⟩, ⟨k3, e3, r3⟩, nd, le⟩ := h
  exact ⟨⟨dx, k _ _ (.inl rfl) e⟩, ⟨k1, k _ _ (.inr (.inl rfl)) e1, r1.keep s⟩, ⟨k2, k _ _ (.inr (.inr (.inl rfl))) e2, r2.keep s⟩, ⟨k3, k _ _ (.inr (.inr (.inr rfl))) e3, r3.keep s⟩, nd, le⟩
theorem IsD.keep {C : Addr} {A : DA} {H H' : Hp} {D : Di} (h : IsD C A H D) (s : Same H H') : IsD C A H' D := h.to (fun _ _ e => s _ _ e) fun _ _ _ e => s _ _ e
def Srt {α : Type} (T : List (Str × α)) (ys : List Str) : Prop := ys.Perm (T.map (·.1)) ∧ sortedS ys = true
def Told {α : Type} (H : Hp) (f : Str → α → List V) (T : List (Str × α)) (vs : List V) : Prop := ∃ ys, Srt T ys ∧ Paired (fun n v => ∃ p x, v = V.ref p ∧ getT T n = some x ∧ H p = some (.tup (f n x))) ys vs
theorem pU {α : Type} {f : Str → α → List V} {T : List (Str × α)} {H H' : Hp} (s : TS H H') : ∀ {ys : List Str} {vs : List V}, Paired (fun n v => ∃ p x, v = V.ref p ∧ getT T n = some x ∧ H p = some (.tup (f n x))) ys vs → Paired (fun n v => ∃ p x, v = V.ref p ∧ getT T n = some x ∧ H' p = some (.tup (f n x))) ys vs
  | _, _, .nil => .nil
  | _, _, .cons ⟨p, x, e1, e2, e3⟩ t => .cons ⟨p, x, e1, e2, s _ _ e3⟩ (pU s t)
theorem j3 {α β : Type} {R : α → β → Prop} {x : α} {y : β} (h : R x y) : ∀ {xs : List α} {ys : List β}, Paired R xs ys → Paired R (xs ++ [x]) (ys ++ [y])
  | _, _, .nil => .cons h .nil
  | _, _, .cons h0 t => .cons h0 (j3 h t)
theorem Told.keep {α : Type} {H H' : Hp} {f : Str → α → List V} {T : List (Str × α)} {vs : List V} (s : TS H H') (h : Told H f T vs) : Told H' f T vs := by
  obtain ⟨ys, hs, hp⟩ := h
  exact ⟨ys, hs, pU s hp⟩
theorem NN {α : Type} {T : List (Str × α)} {n : Str} (h : n ∈ T.map (·.1)) : ∃ x, getT T n = some x := by
  obtain ⟨q, hq, rfl⟩ := List.mem_map.mp h
  unfold getT
  cases e : T.find? (fun r => decide (r.1 = q.1)) with
  | none =>
    have := List.find?_eq_none.mp e q hq
    simp at this
  | some r => exact ⟨r.2, rfl⟩
end DY
namespace DY
open PySem PySem.Spec PyProof.Rows L2
def ak (i : Nat) : Stmt := PySem.Challenge.pw_dunnage_k45_pages_written.main.body.getD i (.Pass ⟨0, 0, 0, 0⟩)
structure bZ (K : PySem.W.Frag) (mg : Str → Option Value) (x : Str) (st : Stmt) (ps : List Str) where
  a : Addr
  d : FuncData
  F : Fun K x x st a d
  g : mg x = some (.ref a)
  b : Binds K d ps []
structure mH (K : PySem.W.Frag) (mg : Str → Option Value) (x : Str) where
  a : Addr
  g : mg x = some (.ref a)
  x : PySem.W.excIn K a [.type "ValueError", .type "Exception", .type "BaseException", .type "object"] "ValueError.__new__" = true
  k : PySem.W.keepIn K (.ref a) = true
  b : PySem.W.subIn K (.ref a) (.type "BaseException") = some true
  t : PySem.W.typeIn K (.ref a) = some (.type "type")
abbrev g8 : Stmt := ak 28
abbrev pF : List Str := ["value"]
theorem yQ : FnScope pF ["value"] (defScope g8) := ⟨rfl, rfl, rfl, by decide +kernel, rfl, by decide +kernel, by decide +kernel⟩
abbrev rD : Stmt := ak 29
abbrev pG : Stmt := ak 30
abbrev pP : Stmt := ak 31
abbrev iN : Stmt := ak 27
abbrev wm : List Str := ["text", "letter"]
theorem lB : FnScope wm ["text"] (defScope iN) := ⟨rfl, rfl, rfl, by decide +kernel, rfl, by decide +kernel, by decide +kernel⟩
abbrev jZ : Stmt := ak 40
abbrev jW : Stmt := ak 41
abbrev jV : Stmt := ak 42
abbrev k9 : Stmt := ak 43
def aR : Str := "abcdefghijklmnopqrstuvwxyz"
def isName (z : Str) : Bool := decide (1 ≤ z.length) && (decide (z.length ≤ 8) && z.cps.toList.all fun c => decide (c ∈ aR.cps.toList))
def isPlace (i : Int) : Bool := decide (-1000000 ≤ i) && decide (i ≤ 1000000)
def f6 (i : Int) : Bool := decide (1 ≤ i) && decide (i ≤ 9)
def iV (i : Int) : Bool := decide (1 ≤ i) && decide (i ≤ 1000000000)
structure T0 (K : PySem.W.Frag) (mg : Str → Option Value) where
  d9 : mg "isinstance" = none
  CK : mg "int" = none
  su : mg "bool" = none
  jd : mg "len" = none
  DO : mg "all" = none
  oh : ∃ t, mg "FARTHEST_PLACE" = some (.int 1000000 t)
  oM : ∃ t, mg "HIGHEST_COURSE" = some (.int 9 t)
  mS : ∃ t, mg "GREATEST_WEIGHT" = some (.int 1000000000 t)
  cP : ∃ t, mg "LONGEST_NAME" = some (.int 8 t)
  gB : ∃ t, mg "LETTERS" = some (.str aR t)
  aV : bZ K mg "is_number" g8 ["value"]
  FA : bZ K mg "is_place" rD ["value"]
  B6 : bZ K mg "is_course" pG ["value"]
  CB : bZ K mg "is_weight" pP ["value"]
  cX : bZ K mg "is_name" iN ["text"]
  rj : bZ K mg "check_course" jZ ["course"]
  qJ : bZ K mg "check_places" jW ["left", "right"]
  qW : bZ K mg "check_weight" jV ["weight"]
  vF : bZ K mg "check_count" k9 ["rows", "most"]
  pT : mH K mg "BadCourse"
  sX : mH K mg "BadPlace"
  pM : mH K mg "BadWeight"
  IC : mH K mg "Full"
theorem cS {H : Hp} {p : Addr} {o : HO} (h : H p = none) : Same H (upd H p o) := fun b x e => by
  rw [upd_ne (ne_of_none e h)]
  exact e
theorem yes {σ : L2.St} {H : Hp} {Q : Bool → Hp → Prop} (h : Q true H) : tYes σ H Q := h
section
variable {P : Program} {w : World} {K : PySem.W.Frag} {mg : Str → Option Value} {base : Heap}
def Qn : Sp := fun vs H Q _ => ∃ z : Str, vs = [.str z] ∧ z.length ≤ 1000 ∧ ∀ H', Same H H' → Q (.bl (isName z)) H'
theorem Nc (z : Str) : z.length = z.cps.size := rfl
theorem FE (T : T0 K mg) : FnOk P w K mg base CX0 1 T.cX.a T.cX.d ["text"] Qn := by
  obtain ⟨tk, cP⟩ := T.cP
  obtain ⟨tk2, gB⟩ := T.gB
  refine T.cX.F.ok lB (fun vs H Q E h => ?_) (fun cdv A outer s H vs Q E hr h => ?_)
  · obtain ⟨i, rfl, _⟩ := h
    rfl
  · obtain ⟨z, rfl, hz, q⟩ := h
    refine ⟨_, pss_one (ps_ret (pe_and (pe_chain op_le op_le pe_int (pe_callB call_len_str (by rfl) T.jd (by decide +kernel) (pa_cons (pv 0) pa_nil)) (pe_glob (v := .int 8) rfl cP ⟨_, rfl⟩)) (pe_one (pe_callB (cr_all rfl) (by rfl) T.DO (by decide +kernel) (pa_cons (pe_lc (own := [("letter", 1)]) (g := (gName 1)) (tt := tYes) (by rfl) lB.nd (pi_str (pv 0)) (blkOk_by (N := wm) (sc := defScope iN) (by decide +kernel)) (fun _ _ _ _ _ => (pg_name (i := 1) lB.nd rfl (Or.inl rfl))) (fun _ _ _ _ _ => pts_nil) (fun _ _ _ _ _ => (pe_cmpR op_in_sign (pv 1) (pe_glob (v := .str aR) rfl gB ⟨_, rfl⟩) rfl))) pa_nil))))), ?_⟩
    refine ⟨_, rfl, z, rfl, Nat.le_of_lt (small1000 hz), _, _, rfl, rfl, _, rfl, ite2 (fun e => ?_) (fun e => ?_)⟩
    · refine ⟨_, _, rfl, rfl, _, rfl, ite2 (fun e2 => ?_) (fun e2 => ?_)⟩
      · refine ⟨_, rfl, z, rfl, fun D nD => ?_⟩
        refine lc_it walk_str (fun i H' => Same H H' ∧ H' D = some (.lst ((z.cps.toList.take i).map fun c => .bl (decide (c ∈ aR.cps.toList))))) ⟨cS nD, upd_same⟩ (fun _ _ _ _ => trivial) (fun i x H2 H3 hi p hy => ?_) (fun H2 p => ?_)
        · obtain ⟨p1, p2⟩ := p
          obtain ⟨rfl, c, hc, rfl⟩ := hy
          refine ⟨rfl, yes (iteT ?_)⟩
          refine ⟨_, rfl, c, aR, rfl, rfl, _, p2, ?_, ?_, ?_⟩
          · rw [List.length_map, List.length_take]
            exact small1000 (by rw [Nc] at hz; omega)
          · intro b o e
            rw [upd_ne (ne_of_none e nD)]
            exact p1 _ _ e
          · rw [upd_same, List.take_add_one, Array.getElem?_toList, hc]
            simp
        · refine ⟨D, (z.cps.toList.take z.cps.size).map fun c => decide (c ∈ aR.cps.toList), rfl, ?_, ?_⟩
          · refine SqL.of ?_
            rw [p.2, List.map_map]
            rfl
          · have e1 : isName z = ((z.cps.toList.take z.cps.size).map fun c => decide (c ∈ aR.cps.toList)).all id := by
              have a1 : decide (1 ≤ z.length) = true := by
                have : decide ((1 : Int) ≤ (z.length : Int)) = true := e
                simp only [decide_eq_true_eq] at this ⊢
                omega
              have a2 : decide (z.length ≤ 8) = true := by
                have : decide ((z.length : Int) ≤ 8) = true := e2
                simp only [decide_eq_true_eq] at this ⊢
                omega
              unfold isName
              rw [a1, a2, Bool.true_and, Bool.true_and, List.take_of_length_le (by simp), List.all_map]
              rfl
            rw [← e1]
            exact q _ p.1
      · have e1 : isName z = false := by
          have a2 : decide (z.length ≤ 8) = false := by
            have : decide ((z.length : Int) ≤ 8) = false := Bool.eq_false_iff.mpr e2
            simp only [decide_eq_false_iff_not] at this ⊢
            omega
          unfold isName
          rw [a2, Bool.false_and, Bool.and_false]
        have q0 := q H (Same.refl H)
        rw [e1] at q0
        exact q0
    · have e1 : isName z = false := by
        have a2 : decide (1 ≤ z.length) = false := by
          have : decide ((1 : Int) ≤ (z.length : Int)) = false := Bool.eq_false_iff.mpr e
          simp only [decide_eq_false_iff_not] at this ⊢
          omega
        unfold isName
        rw [a2, Bool.false_and]
      have q0 := q H (Same.refl H)
      rw [e1] at q0
      exact ⟨_, rfl, iteF q0⟩
end
end DY
namespace DY
open PySem PySem.Spec PyProof.Rows L2
abbrev iX : Stmt := ak 39
abbrev lW : Stmt := ak 44
abbrev k8 : Stmt := ak 52
abbrev pD : Stmt := ak 53
abbrev dG : Stmt := inClass (ak 63) 0
abbrev wz : Stmt := inClass (ak 63) 1
abbrev kX : Stmt := inClass (ak 63) 2
abbrev jI : Stmt := inClass (ak 63) 3
abbrev mX : Stmt := inClass (ak 63) 4
abbrev mj : Stmt := inClass (ak 63) 5
end DY
namespace DY
open PySem PySem.Spec PyProof.Rows L2
section
variable {P : Program} {w : World} {K : PySem.W.Frag} {mg : Str → Option Value} {base : Heap}
structure T1 (K : PySem.W.Frag) (mg : Str → Option Value) extends T0 K mg where
  AZ : mg "list" = none
  Uy : mg "max" = none
  Ue : mg "min" = none
  l7 : mg "sorted" = none
  vY : mH K mg "BadName"
  G0 : mH K mg "Taken"
  wB : mH K mg "Crowded"
  w7 : mH K mg "NoThing"
  GX : mH K mg "InUse"
  Cp : mH K mg "NoSack"
  Dm : mH K mg "NoCord"
  vW : mH K mg "BadCord"
  wF : mH K mg "BadDeed"
  CY : Addr
  cl : Cls K CY
  nb : NoAttr K CY "board_rows"
  nt : NoAttr K CY "trestle_rows"
  ns : NoAttr K CY "sack_rows"
  nc : NoAttr K CY "cord_rows"
  oG : bZ K mg "check_new_name" iX ["yard", "name"]
  AS : bZ K mg "check_room" lW ["yard", "name", "course", "left", "right"]
def taken (Y : Yd) (n : Str) : Bool := dw Y.bo n || (dw Y.tr n || (dw Y.sa n || dw Y.co n))
theorem sm {n : Nat} (h : n ≤ 1000000) : n ≤ sizeLine := Nat.le_trans h (by decide)
def lies (Y : Yd) : List (Str × Int × Int × Int) := Y.bo.map (fun q => (q.1, q.2.1, q.2.2.1, q.2.2.2.1)) ++ Y.tr.map (fun q => (q.1, q.2.1, q.2.2.1, q.2.2.2))
def meets (n : Str) (c l r : Int) (q : Str × Int × Int × Int) : Bool := !(decide (q.1 = n)) && (decide (q.2.1 = c) && decide ((if q.2.2.1 > l then q.2.2.1 else l) < (if q.2.2.2 < r then q.2.2.2 else r)))
def uw (Y : Yd) (n : Str) (c l r : Int) : Bool := (lies Y).any (meets n c l r)
theorem Rows.at {α : Type} {H : Hp} {f : Str → α → List V} {kvs : List (Key × V)} {T : List (Str × α)} (r : Rows H f kvs T) : ∀ (i : Nat) (x : V), (kvs.map (·.2))[i]? = some x → ∃ p n a, x = .ref p ∧ T[i]? = some (n, a) ∧ H p = some (.tup (f n a)) := by
  induction r with
  | nil => intro i x h; cases h
  | @cons n a p kvs T h _ ih =>
    intro i x hx
    match i, hx with
    | 0, hx => cases hx; exact ⟨p, n, a, rfl, rfl, h⟩
    | i + 1, hx => exact ih i x hx
end
end DY
namespace DY
open PySem PySem.Spec PyProof.Rows L2
section
variable {P : Program} {w : World} {K : PySem.W.Frag} {mg : Str → Option Value} {base : Heap}
inductive Er
  | BadName | Taken | BadCourse | BadPlace | BadWeight | Full | Crowded | NoThing | InUse | NoSack | NoCord | BadCord | BadDeed
  deriving DecidableEq
structure T2 (K : PySem.W.Frag) (mg : Str → Option Value) extends T1 K mg where
  qt : ∃ t, mg "MOST_TRESTLES" = some (.int 6 t)
  vD : ∃ t, mg "MOST_BOARDS" = some (.int 6 t)
  ly : bZ K mg "set_trestle" k8 ["yard", "name", "course", "left", "right"]
  pO : bZ K mg "lay_board" pD ["yard", "name", "course", "left", "right", "weight"]
def lO (Y : Yd) (n : Str) (c l r : Int) : Option Er :=
  if isName n = false then some .BadName else if taken Y n = true then some .Taken else if f6 c = false then some .BadCourse else if (isPlace l && isPlace r) = false then some .BadPlace else if r < l then some .BadPlace
  else if 6 ≤ Y.tr.length then some .Full else if uw Y n c l r = true then some .Crowded else none
def lH (Y : Yd) (n : Str) (c l r g : Int) : Option Er :=
  if isName n = false then some .BadName else if taken Y n = true then some .Taken else if f6 c = false then some .BadCourse else if (isPlace l && isPlace r) = false then some .BadPlace else if r ≤ l then some .BadPlace
  else if iV g = false then some .BadWeight else if 6 ≤ Y.bo.length then some .Full else if uw Y n c l r = true then some .Crowded else none
def Act (C : Addr) (ec : Er → Addr) (A : YA) (H : Hp) (Q : VK) (E : XK) (f : Option Er) (Y' : Yd) : Prop :=
  (∀ e, f = some e → ∀ H', Same H H' → E (.ref (ec e)) none H') ∧ (f = none → ∀ H', TS H H' → (∀ p o, H p = some o → p ≠ A.b → p ≠ A.t → p ≠ A.s → p ≠ A.c → H' p = some o) → JX C A H' Y' → Q .non H')
def Va (Y : Yd) : Prop := ∀ q ∈ lies Y, q.1.length ≤ 1000
def ec (T : T1 K mg) : Er → Addr
  | .BadName => T.vY.a
  | .Taken => T.G0.a
  | .BadCourse => T.pT.a
  | .BadPlace => T.sX.a
  | .BadWeight => T.pM.a
  | .Full => T.IC.a
  | .Crowded => T.wB.a
  | .NoThing => T.w7.a
  | .InUse => T.GX.a
  | .NoSack => T.Cp.a
  | .NoCord => T.Dm.a
  | .BadCord => T.vW.a
  | .BadDeed => T.wF.a
end
end DY
namespace DY
open PySem PySem.Spec PyProof.Rows L2
structure T3 (w : World) (K : PySem.W.Frag) (mg : Str → Option Value) extends T2 K mg where
end DY
namespace DY
open PySem PySem.Spec PyProof.Rows L2
abbrev iO : Stmt := ak 45
abbrev pZ : Stmt := ak 46
abbrev fq : Stmt := ak 47
abbrev uV : Stmt := ak 48
abbrev uO : Stmt := ak 49
abbrev jD : Stmt := ak 50
abbrev jJ : Stmt := ak 51
structure T5 (w : World) (K : PySem.W.Frag) (mg : Str → Option Value) extends T3 w K mg where
  oR : bZ K mg "check_on_board" iO ["row", "place"]
  CJ : bZ K mg "board_row" pZ ["yard", "name"]
  je : bZ K mg "board_or_trestle_row" fq ["yard", "name"]
  EG : bZ K mg "sack_row" uV ["yard", "name"]
  ER : bZ K mg "cord_row" uO ["yard", "name"]
  qw : bZ K mg "check_no_cord" jD ["yard", "name"]
  qm : bZ K mg "check_no_sack" jJ ["yard", "name"]
def Nm (z : Str) : Prop := z.length ≤ 1000 ∧ ∀ c ∈ z.cps.toList, c < 16 ^ 8
def M9 (l r i : Int) : Bool := isPlace i && (decide (l ≤ i) && decide (i ≤ r))
section
variable {P : Program} {w : World} {K : PySem.W.Frag} {mg : Str → Option Value} {base : Heap}
def Ep (Y : Yd) (n : Str) : Bool := Y.sa.any fun q => decide (q.2.1 = n)
def KG (Y : Yd) (n : Str) : Bool := Y.co.any fun q => decide (q.2.1 = n) || decide (q.2.2.1 = n)
end
end DY
namespace DY
open PySem PySem.Spec PyProof.Rows L2
abbrev pK : Stmt := ak 54
abbrev kY : Stmt := ak 56
abbrev kR : Stmt := ak 55
abbrev se : Stmt := ak 57
abbrev pN : Stmt := ak 58
abbrev pJ : Stmt := ak 59
abbrev uF : Stmt := ak 60
abbrev vg : Stmt := ak 61
section
variable {α : Type} {H : Hp} {f : Str → α → List V} {kvs : List (Key × V)} {T : List (Str × α)}
def qk (T : List (Str × α)) (n : Str) : List (Str × α) := T.filter fun q => decide (q.1 ≠ n)
def putT (T : List (Str × α)) (n : Str) (x : α) : List (Str × α) := if dw T n = true then T.map (fun q => if q.1 = n then (q.1, x) else q) else T ++ [(n, x)]
theorem Rows.del (r : Rows H f kvs T) (n : Str) : Rows H f (dropK kvs (Sum.inr n)) (qk T n) := by
  induction r with
  | nil => exact .nil
  | @cons m x p kvs T h _ ih =>
    unfold dropK qk at *
    by_cases e : m = n
    · rw [List.filter_cons_of_neg (by simp [e]), List.filter_cons_of_neg (by simp [e])]
      exact ih
    · rw [List.filter_cons_of_pos (by simp [e]), List.filter_cons_of_pos (by simp [e])]
      exact .cons h ih
theorem Rows.map_put (r : Rows H f kvs T) {n : Str} {x : α} {p : Addr} (h : H p = some (.tup (f n x))) : Rows H f (kvs.map fun kv => if kv.1 = Sum.inr n then (kv.1, V.ref p) else kv) (T.map fun q => if q.1 = n then (q.1, x) else q) := by
  induction r with
  | nil => exact .nil
  | @cons m y q kvs T h0 _ ih =>
    rw [List.map_cons, List.map_cons]
    by_cases e : m = n
    · subst e
      rw [if_pos rfl, if_pos rfl]
      exact .cons h ih
    · rw [if_neg (fun z => e (Sum.inr.inj z)), if_neg e]
      exact .cons h0 ih
theorem Rows.put (r : Rows H f kvs T) {n : Str} {x : α} {p : Addr} (h : H p = some (.tup (f n x))) : Rows H f (putK kvs (Sum.inr n) (.ref p)) (putT T n x) := by
  unfold putK putT
  rw [valV_any, r.has n]
  by_cases e : dw T n = true
  · rw [if_pos e, if_pos e]
    exact r.map_put h
  · rw [if_neg e, if_neg e]
    exact r.snoc h
end
section
variable {C : Addr} {B : YA} {H : Hp} {Y : Yd}
structure Upd (C : Addr) (B : YA) (H H' : Hp) (Y' : Yd) : Prop where
  is : JX C B H' Y'
  ts : TS H H'
  fr : ∀ p o, H p = some o → p ≠ B.b → p ≠ B.t → p ≠ B.s → p ≠ B.c → H' p = some o
theorem JX.updB (hy : JX C B H Y) {k' : List (Key × V)} {T' : List (Str × P6)} (r : Rows H VY k' T') (hl : T'.length ≤ 6) : Upd C B H (upd H B.b (.dK k')) { Y with bo := T' } := by
  obtain ⟨dx, eo⟩ := hy.ob
  obtain ⟨kb, eb, rb⟩ := hy.bo
  obtain ⟨kt, et, rt⟩ := hy.tr
  obtain ⟨ks, es, rs⟩ := hy.sa
  obtain ⟨kc, ec, rc⟩ := hy.co
  obtain ⟨n1, n2, n3, n4, n5, n6⟩ := hy.nd
  have ts : TS H (upd H B.b (.dK k')) := .upd fun xs z => by rw [eb] at z; cases z
  have le := hy.le
  refine ⟨⟨⟨dx, ?_⟩, ⟨_, upd_same, r.keep ts⟩, ⟨kt, ?_, rt.keep ts⟩, ⟨ks, ?_, rs.keep ts⟩, ⟨kc, ?_, rc.keep ts⟩, hy.nd, ?_⟩, ts, fun p o e nb _ _ _ => by rw [upd_ne nb]; exact e⟩
  · rw [upd_ne (ne_of eo eb (fun z => nomatch z))]
    exact eo
  · rw [upd_ne n1.symm]
    exact et
  · rw [upd_ne n2.symm]
    exact es
  · rw [upd_ne n3.symm]
    exact ec
  · show Y.tr.length ≤ 6 ∧ T'.length ≤ 6 ∧ Y.sa.length ≤ 8 ∧ Y.co.length ≤ 4
    omega
theorem JX.updC (hy : JX C B H Y) {k' : List (Key × V)} {T' : List (Str × Tt)} (r : Rows H VJ k' T') (hl : T'.length ≤ 4) : Upd C B H (upd H B.c (.dK k')) { Y with co := T' } := by
  obtain ⟨dx, eo⟩ := hy.ob
  obtain ⟨kb, eb, rb⟩ := hy.bo
  obtain ⟨kt, et, rt⟩ := hy.tr
  obtain ⟨ks, es, rs⟩ := hy.sa
  obtain ⟨kc, ec, rc⟩ := hy.co
  obtain ⟨n1, n2, n3, n4, n5, n6⟩ := hy.nd
  have ts : TS H (upd H B.c (.dK k')) := .upd fun xs z => by rw [ec] at z; cases z
  have le := hy.le
  refine ⟨⟨⟨dx, ?_⟩, ⟨kb, ?_, rb.keep ts⟩, ⟨kt, ?_, rt.keep ts⟩, ⟨ks, ?_, rs.keep ts⟩, ⟨_, upd_same, r.keep ts⟩, hy.nd, ?_⟩, ts, fun p o e _ _ _ nc => by rw [upd_ne nc]; exact e⟩
  · rw [upd_ne (ne_of eo ec (fun z => nomatch z))]
    exact eo
  · rw [upd_ne n3]
    exact eb
  · rw [upd_ne n5]
    exact et
  · rw [upd_ne n6]
    exact es
  · show Y.tr.length ≤ 6 ∧ Y.bo.length ≤ 6 ∧ Y.sa.length ≤ 8 ∧ T'.length ≤ 4
    omega
theorem Upd.pre {H0 H1 : Hp} {Y' : Yd} (s : Same H0 H) (u : Upd C B H H1 Y') : Upd C B H0 H1 Y' := ⟨u.is, (TS.of s).trans u.ts, fun p o e n1 n2 n3 n4 => u.fr p o (s _ _ e) n1 n2 n3 n4⟩
end
structure T6 (w : World) (K : PySem.W.Frag) (mg : Str → Option Value) extends T5 w K mg where
  pS : bZ K mg "take_away" pK ["yard", "name"]
  vK : bZ K mg "shift_sacks" kY ["yard", "board", "by"]
  kZ : bZ K mg "shift_along" kR ["yard", "name", "by"]
  uB : bZ K mg "set_sack" se ["yard", "name", "board", "place", "weight"]
  pY : bZ K mg "move_sack" pN ["yard", "name", "board", "place"]
  pR : bZ K mg "lift_sack" pJ ["yard", "name"]
  uY : bZ K mg "tie_cord" uF ["yard", "name", "upper", "lower", "place"]
  sR : bZ K mg "cut_cord" vg ["yard", "name"]
  ym : ∃ t, mg "MOST_SACKS" = some (.int 8 t)
  Ae : ∃ t, mg "MOST_CORDS" = some (.int 4 t)
  zq : ∃ t, mg "BEAM" = some (.str "" t)
  Vv : Addr
  EZ : mg "BEAM_ROW" = some (.ref Vv)
  Wa : ∀ H, SqT K H Vv [.str "", .int 10, .int (-1000000), .int 1000000]
structure Wj (Y : Yd) : Prop where
  nm : Va Y
  sa : ∀ z ∈ Y.sa.map (·.1), z.length ≤ 1000
  co : ∀ z ∈ Y.co.map (·.1), z.length ≤ 1000
section
variable {P : Program} {w : World} {K : PySem.W.Frag} {mg : Str → Option Value} {base : Heap}
def zj (Y : Yd) (n : Str) : Option Er := if (dw Y.tr n || dw Y.bo n) = false then some .NoThing else if (Ep Y n || KG Y n) = true then some .InUse else none
def Eh (Y : Yd) (n : Str) : Yd := if dw Y.tr n = true then { Y with tr := qk Y.tr n } else { Y with bo := qk Y.bo n }
def MV (Y : Yd) (n : Str) : Option Er := if dw Y.sa n = false then some .NoSack else none
def Fp (Y : Yd) (n : Str) : Yd := { Y with sa := qk Y.sa n }
def NF (Y : Yd) (n : Str) : Option Er := if dw Y.co n = false then some .NoCord else none
def Ff (Y : Yd) (n : Str) : Yd := { Y with co := qk Y.co n }
end
end DY
namespace DY
open PySem PySem.Spec PyProof.Rows L2
section
variable {P : Program} {w : World} {K : PySem.W.Frag} {mg : Str → Option Value} {base : Heap}
def Es (Y : Yd) (b : Str) (p : Int) : Option Bool := (getT Y.bo b).map fun x => M9 x.2.1 x.2.2.1 p
def jx (Y : Yd) (n b : Str) (p g : Int) : Option Er :=
  if isName n = false then some .BadName else if taken Y n = true then some .Taken else match Es Y b p with
    | none => some .NoThing
    | some false => some .BadPlace
    | some true => if iV g = false then some .BadWeight else if 8 ≤ Y.sa.length then some .Full else none
def Fe (Y : Yd) (n b : Str) (p g : Int) : Yd := { Y with sa := Y.sa ++ [(n, b, p, g)] }
def zT (Y : Yd) (n b : Str) (p : Int) : Option Er :=
  if dw Y.sa n = false then some .NoSack else match Es Y b p with
    | none => some .NoThing
    | some false => some .BadPlace
    | some true => none
def ES (Y : Yd) (n b : Str) (p : Int) : Yd := match getT Y.sa n with
  | some x => { Y with sa := putT Y.sa n (b, p, x.2.2) }
  | none => Y
end
end DY
namespace DY
open PySem PySem.Spec PyProof.Rows L2
section
variable {P : Program} {w : World} {K : PySem.W.Frag} {mg : Str → Option Value} {base : Heap}
def oH (b : Str) (k : Int) (acc : List (Str × EM)) (q : Str × EM) : List (Str × EM) := if q.2.1 = b then putT acc q.1 (b, q.2.2.1 + k, q.2.2.2) else acc
def An (sa : List (Str × EM)) (b : Str) (k : Int) : List (Str × EM) := sa.foldl (oH b k) sa
theorem jt {α : Type} {T : List (Str × α)} {n : Str} {x : α} (h : dw T n = true) : (putT T n x).map (·.1) = T.map (·.1) := by
  unfold putT
  rw [if_pos h, List.map_map]
  refine List.map_congr_left fun q _ => ?_
  show (if q.1 = n then (q.1, x) else q).1 = q.1
  split <;> rfl
theorem J7 {α : Type} {T : List (Str × α)} {n : Str} (h : n ∈ T.map (·.1)) : dw T n = true := by
  obtain ⟨x, hx⟩ := NN h
  unfold dw
  rw [hx]
  rfl
theorem AM {b : Str} {k : Int} {acc sa : List (Str × EM)} {q : Str × EM} (h : acc.map (·.1) = sa.map (·.1)) (hq : q ∈ sa) : (oH b k acc q).map (·.1) = sa.map (·.1) := by
  unfold oH
  split
  · rw [jt (J7 (by rw [h]; exact List.mem_map_of_mem hq)), h]
  · exact h
theorem tX {b : Str} {k : Int} {sa : List (Str × EM)} : ∀ {l acc : List (Str × EM)}, (∀ q ∈ l, q ∈ sa) → acc.map (·.1) = sa.map (·.1) → (l.foldl (oH b k) acc).map (·.1) = sa.map (·.1)
  | [], _, _, h => h
  | q :: l, acc, hl, h => tX (l := l) (fun z hz => hl z (List.mem_cons_of_mem _ hz)) (AM h (hl q List.mem_cons_self))
theorem lS (sa : List (Str × EM)) (b : Str) (k : Int) : (An sa b k).map (·.1) = sa.map (·.1) := tX (fun _ h => h) rfl
def MG (Y : Yd) (n : Str) : Option (Int × Int × Int) := match getT Y.tr n with
  | some x => some x
  | none => (getT Y.bo n).map fun x => (x.1, x.2.1, x.2.2.1)
def xW (Y : Yd) (n : Str) (k : Int) : Option Er := match MG Y n with
  | none => some .NoThing
  | some x => if (isPlace (x.2.1 + k) && isPlace (x.2.2 + k)) = false then some .BadPlace else if KG Y n = true then some .InUse else if uw Y n x.1 (x.2.1 + k) (x.2.2 + k) = true then some .Crowded else none
def FP (Y : Yd) (n : Str) (k : Int) : Yd := match getT Y.tr n with
  | some x => { Y with tr := putT Y.tr n (x.1, x.2.1 + k, x.2.2 + k) }
  | none => match getT Y.bo n with
    | some x => { Y with bo := putT Y.bo n (x.1, x.2.1 + k, x.2.2.1 + k, x.2.2.2), sa := An Y.sa n k }
    | none => Y
end
end DY
namespace DY
open PySem PySem.Spec PyProof.Rows L2
section
variable {P : Program} {w : World} {K : PySem.W.Frag} {mg : Str → Option Value} {base : Heap}
def Gr (Y : Yd) (u : Str) : Option (Int × Int × Int) := if u = "" then some (10, -1000000, 1000000) else (getT Y.bo u).map fun x => (x.1, x.2.1, x.2.2.1)
def kB (Y : Yd) (n u lo : Str) (p : Int) : Option Er :=
  if isName n = false then some .BadName else if taken Y n = true then some .Taken else match Gr Y u with
    | none => some .NoThing
    | some y => match getT Y.bo lo with
      | none => some .NoThing
      | some x => if y.1 ≤ x.1 then some .BadCord else if M9 y.2.1 y.2.2 p = false then some .BadPlace else if M9 x.2.1 x.2.2.1 p = false then some .BadPlace else if 4 ≤ Y.co.length then some .Full else none
def F6 (Y : Yd) (n u lo : Str) (p : Int) : Yd := { Y with co := Y.co ++ [(n, u, lo, p)] }
end
end DY
namespace DY
open PySem PySem.Spec PyProof.Rows L2
abbrev gz : Stmt := ak 26
abbrev mw : List Str := ["deed"]
theorem vL : FnScope mw ["deed"] (defScope gz) := ⟨rfl, rfl, rfl, by decide +kernel, rfl, by decide +kernel, by decide +kernel⟩
structure jL (K : PySem.W.Frag) (C : Addr) (m : Str) (q : Str) (st : Stmt) (ps : List Str) where
  a : Addr
  d : FuncData
  F : Fun K m q st a d
  m : Meth K C m a
  b : Binds K d ps []
def counts : List (Str × Int) := [("trestle", 5), ("board", 6), ("away", 2), ("along", 3), ("sack", 5), ("move", 4), ("lift", 2), ("cord", 5), ("cut", 2)]
structure T4 (w : World) (K : PySem.W.Frag) (mg : Str → Option Value) extends T6 w K mg where
  aC : Addr
  aA : Addr
  cI : mg "DEED_THINGS" = some (.ref aC)
  HB : mg "ACTIONS" = some (.ref aA)
  kC : ∃ es n, KDict K w aC es n
  kA : ∃ es n, KDict K w aA es n
  vC : ∀ q ∈ counts, ∃ (u : Value) (t : Addr) (xs : List V), PySem.W.nsIn K aC q.1 = some (some u) ∧ RelV (.ref t) u ∧ (1 : Int) + ((xs.length : Nat) : Int) = q.2 ∧ ∀ H : Hp, SqT K H t xs
  aT : ∃ u, PySem.W.nsIn K aA "trestle" = some (some u) ∧ RelV (.ref ly.a) u
  aB : ∃ u, PySem.W.nsIn K aA "board" = some (some u) ∧ RelV (.ref pO.a) u
  Wx : ∃ u, PySem.W.nsIn K aA "away" = some (some u) ∧ RelV (.ref pS.a) u
  Wl : ∃ u, PySem.W.nsIn K aA "along" = some (some u) ∧ RelV (.ref kZ.a) u
  V4 : ∃ u, PySem.W.nsIn K aA "sack" = some (some u) ∧ RelV (.ref uB.a) u
  Wu : ∃ u, PySem.W.nsIn K aA "move" = some (some u) ∧ RelV (.ref pY.a) u
  Wg : ∃ u, PySem.W.nsIn K aA "lift" = some (some u) ∧ RelV (.ref pR.a) u
  Ws : ∃ u, PySem.W.nsIn K aA "cord" = some (some u) ∧ RelV (.ref uY.a) u
  Wd : ∃ u, PySem.W.nsIn K aA "cut" = some (some u) ∧ RelV (.ref sR.a) u
  bW : bZ K mg "check_form" gz ["deed"]
  Fw : Addr
  AB : FuncData
  NK : Fun K "__init__" "Yard.__init__" dG Fw AB
  M4 : Binds K AB ["self"] []
  NJ : Mk K CY Fw
  Pd : mg "Yard" = some (.ref CY)
  Hx : jL K CY "do" "Yard.do" wz ["self", "deed"]
  vG : jL K CY "boards" "Yard.boards" kX ["self"]
  qg : jL K CY "trestles" "Yard.trestles" jI ["self"]
  z5 : jL K CY "sacks" "Yard.sacks" mX ["self"]
  xN : jL K CY "cords" "Yard.cords" mj ["self"]
section
variable {P : Program} {w : World} {K : PySem.W.Frag} {mg : Str → Option Value} {base : Heap}
def y0 : Yd := ⟨[], [], [], []⟩
inductive dz
  | tre (n : Str) (c : Int) (l : Int) (r : Int)
  | boa (n : Str) (c : Int) (l : Int) (r : Int) (g : Int)
  | awa (n : Str)
  | alo (n : Str) (k : Int)
  | sac (n : Str) (b : Str) (p : Int) (g : Int)
  | mov (n : Str) (b : Str) (p : Int)
  | lif (n : Str)
  | cor (n : Str) (u : Str) (lo : Str) (p : Int)
  | cut (n : Str)
def dN : dz → Str
  | .tre n .. => n
  | .boa n .. => n
  | .awa n => n
  | .alo n .. => n
  | .sac n .. => n
  | .mov n .. => n
  | .lif n => n
  | .cor n .. => n
  | .cut n => n
def fault (Y : Yd) : dz → Option Er
  | .tre n c l r => lO Y n c l r
  | .boa n c l r g => lH Y n c l r g
  | .awa n => zj Y n
  | .alo n k => xW Y n k
  | .sac n b p g => jx Y n b p g
  | .mov n b p => zT Y n b p
  | .lif n => MV Y n
  | .cor n u lo p => kB Y n u lo p
  | .cut n => NF Y n
def step (Y : Yd) : dz → Yd
  | .tre n c l r => { Y with tr := Y.tr ++ [(n, c, l, r)] }
  | .boa n c l r g => { Y with bo := Y.bo ++ [(n, c, l, r, g)] }
  | .awa n => Eh Y n
  | .alo n k => FP Y n k
  | .sac n b p g => Fe Y n b p g
  | .mov n b p => ES Y n b p
  | .lif n => Fp Y n
  | .cor n u lo p => F6 Y n u lo p
  | .cut n => Ff Y n
theorem Act.pre {C : Addr} {ec : Er → Addr} {A : YA} {H H1 : Hp} {Q : VK} {E : XK} {f : Option Er} {Y' : Yd} (s : Same H H1) (h : Act C ec A H Q E f Y') : Act C ec A H1 Q E f Y' :=
  ⟨fun e he H' s' => h.1 e he H' (s.trans s'), fun hf H' ts fr hy => h.2 hf H' ((TS.of s).trans ts) (fun p o e n1 n2 n3 n4 => fr p o (s _ _ e) n1 n2 n3 n4) hy⟩
end
end DY
namespace DL
open PySem PySem.Spec PyProof.Rows L2
inductive Dt
  | non
  | bl (b : Bool)
  | int (i : Int)
  | str (s : Str)
  | lst (xs : List Dt)
  | tup (xs : List Dt)
  | dic (kvs : List (Key × Dt))
  | yard (Y : DY.Yd)
  | ins (p : Addr) (c : Str) (ns : List Str) (fs : List (Str × Dt))
  | scr (ns : List Int)
  | ys (Ys : List DY.Yd)
  | dia (D : DY.Di)
structure Cl where
  y : Addr
  cs : Str → Addr
structure Cf where
  c : Cl
  lk : Option Addr
def vM (C : Cf) (H : Hp) (p : Addr) (kvs : List (Key × V)) : Prop := (C.lk ≠ some p ∧ H p = some (.dK kvs)) ∨ (C.lk = some p ∧ ∃ o, H p = some (.frz o (.dK kvs)))
mutual
inductive Rep (K : PySem.W.Frag) (C : Cf) (H : Hp) : V → Dt → Prop
  | non : Rep K C H .non .non
  | bl {b : Bool} : Rep K C H (.bl b) (.bl b)
  | int {i : Int} : Rep K C H (.int i) (.int i)
  | str {s : Str} : Rep K C H (.str s) (.str s)
  | lst {p : Addr} {vs : List V} {ds : List Dt} : H p = some (.lst vs) → aH K C H vs ds → Rep K C H (.ref p) (.lst ds)
  | tup {p : Addr} {vs : List V} {ds : List Dt} : H p = some (.tup vs) → aH K C H vs ds → Rep K C H (.ref p) (.tup ds)
  | dic {p : Addr} {kvs : List (Key × V)} {kds : List (Key × Dt)} : vM C H p kvs → jr K C H kvs kds → Rep K C H (.ref p) (.dic kds)
  | yard {A : DY.YA} {Y : DY.Yd} : C.lk = none → DY.JX C.c.y A H Y → Rep K C H (.ref A.y) (.yard Y)
  | ins {p dx : Addr} {c : Str} {ns : List Str} {fs : List (Str × V)} {fd : List (Str × Dt)} : H p = some (.ins (C.c.cs c) dx fs) → fs.map (·.1) = ns → yO K C H fs fd → Rep K C H (.ref p) (.ins p c ns fd)
  | scr {p : Addr} {ns : List Int} : SqL K H p (ns.map V.int) → Rep K C H (.ref p) (.scr ns)
  | ys {p : Addr} {As : List DY.YA} {Ys : List DY.Yd} : C.lk = none → H p = some (.lst (As.map fun A => V.ref A.y)) → DY.EW C.c.y H As Ys → Rep K C H (.ref p) (.ys Ys)
  | dia {A : DY.DA} {D : DY.Di} : C.lk = none → DY.IsD (C.c.cs "Diary") A H D → Rep K C H (.ref A.q) (.dia D)
inductive aH (K : PySem.W.Frag) (C : Cf) (H : Hp) : List V → List Dt → Prop
  | nil : aH K C H [] []
  | cons {v : V} {d : Dt} {vs : List V} {ds : List Dt} : Rep K C H v d → aH K C H vs ds → aH K C H (v :: vs) (d :: ds)
inductive jr (K : PySem.W.Frag) (C : Cf) (H : Hp) : List (Key × V) → List (Key × Dt) → Prop
  | nil : jr K C H [] []
  | cons {k : Key} {v : V} {d : Dt} {kvs : List (Key × V)} {kds : List (Key × Dt)} : Rep K C H v d → jr K C H kvs kds → jr K C H ((k, v) :: kvs) ((k, d) :: kds)
inductive yO (K : PySem.W.Frag) (C : Cf) (H : Hp) : List (Str × V) → List (Str × Dt) → Prop
  | nil {fs : List (Str × V)} : yO K C H fs []
  | cons {fs : List (Str × V)} {k : Str} {v : V} {d : Dt} {fd : List (Str × Dt)} : fs.lookup k = some v → Rep K C H v d → yO K C H fs fd → yO K C H fs ((k, d) :: fd)
end
section
variable {K : PySem.W.Frag} {C : Cf} {H H' : Hp}
theorem vM.keep (s : Same H H') {p : Addr} {kvs : List (Key × V)} (h : vM C H p kvs) : vM C H' p kvs := by
  rcases h with ⟨h1, h2⟩ | ⟨h1, o, h2⟩
  · exact .inl ⟨h1, s _ _ h2⟩
  · exact .inr ⟨h1, o, s _ _ h2⟩
theorem vM.rd {p : Addr} {kvs : List (Key × V)} (h : vM C H p kvs) : Rd H p (.dK kvs) := by
  rcases h with ⟨h1, h2⟩ | ⟨h1, o, h2⟩
  · exact .inl h2
  · exact .inr ⟨o, h2⟩
theorem Nb (s : Same H H') {p : Addr} {u : HO} (h : Rd H p u) : Rd H' p u := by
  rcases h with h | ⟨o, h⟩
  · exact .inl (s _ _ h)
  · exact .inr ⟨o, s _ _ h⟩
theorem CU (s : Same H H') {p : Addr} {vs : List V} (h : SqL K H p vs) : SqL K H' p vs := by
  rcases h with h | h
  · exact .inl (Nb s h)
  · exact .inr h
mutual
theorem Rep.keep (s : Same H H') : ∀ {v : V} {d : Dt}, Rep K C H v d → Rep K C H' v d
  | _, _, .non => .non
  | _, _, .bl => .bl
  | _, _, .int => .int
  | _, _, .str => .str
  | _, _, .lst h r => .lst (s _ _ h) (aH.keep s r)
  | _, _, .tup h r => .tup (s _ _ h) (aH.keep s r)
  | _, _, .dic h r => .dic (h.keep s) (jr.keep s r)
  | _, _, .yard hl h => .yard hl (h.keep s)
  | _, _, .ins h n r => .ins (s _ _ h) n (yO.keep s r)
  | _, _, .scr h => .scr (CU s h)
  | _, _, .ys hl h1 h2 => .ys hl (s _ _ h1) (h2.keep s)
  | _, _, .dia hl h => .dia hl (h.keep s)
theorem aH.keep (s : Same H H') : ∀ {vs : List V} {ds : List Dt}, aH K C H vs ds → aH K C H' vs ds
  | _, _, .nil => .nil
  | _, _, .cons h r => .cons (Rep.keep s h) (aH.keep s r)
theorem jr.keep (s : Same H H') : ∀ {vs : List (Key × V)} {ds : List (Key × Dt)}, jr K C H vs ds → jr K C H' vs ds
  | _, _, .nil => .nil
  | _, _, .cons h r => .cons (Rep.keep s h) (jr.keep s r)
theorem yO.keep (s : Same H H') : ∀ {vs : List (Str × V)} {ds : List (Str × Dt)}, yO K C H vs ds → yO K C H' vs ds
  | _, _, .nil => .nil
  | _, _, .cons l h r => .cons l (Rep.keep s h) (yO.keep s r)
end
theorem aH.len : ∀ {vs : List V} {ds : List Dt}, aH K C H vs ds → vs.length = ds.length
  | _, _, .nil => rfl
  | _, _, .cons _ r => by rw [List.length_cons, List.length_cons, r.len]
theorem aH.get : ∀ {vs : List V} {ds : List Dt}, aH K C H vs ds → ∀ {i : Nat} {d : Dt}, ds[i]? = some d → ∃ v, vs[i]? = some v ∧ Rep K C H v d
  | _, _, .nil, i, d, e => by cases i <;> cases e
  | _, _, .cons h r, 0, d, e => by
    cases e
    exact ⟨_, rfl, h⟩
  | _, _, .cons h r, i + 1, d, e => by
    rw [List.getElem?_cons_succ] at e
    obtain ⟨v, h1, h2⟩ := r.get e
    exact ⟨v, by rw [List.getElem?_cons_succ]; exact h1, h2⟩
theorem aH.get' : ∀ {vs : List V} {ds : List Dt}, aH K C H vs ds → ∀ {i : Nat} {v : V}, vs[i]? = some v → ∃ d, ds[i]? = some d ∧ Rep K C H v d
  | _, _, .nil, i, d, e => by cases i <;> cases e
  | _, _, .cons h r, 0, d, e => by
    cases e
    exact ⟨_, rfl, h⟩
  | _, _, .cons h r, i + 1, d, e => by
    rw [List.getElem?_cons_succ] at e
    obtain ⟨v, h1, h2⟩ := r.get' e
    exact ⟨v, by rw [List.getElem?_cons_succ]; exact h1, h2⟩
theorem aH.app : ∀ {vs : List V} {ds : List Dt} {us : List V} {es : List Dt}, aH K C H vs ds → aH K C H us es → aH K C H (vs ++ us) (ds ++ es)
  | _, _, _, _, .nil, r => r
  | _, _, _, _, .cons h r, r' => .cons h (r.app r')
theorem aH.snoc {vs : List V} {ds : List Dt} {v : V} {d : Dt} (r : aH K C H vs ds) (h : Rep K C H v d) : aH K C H (vs ++ [v]) (ds ++ [d]) := r.app (.cons h .nil)
theorem aH.drop : ∀ {vs : List V} {ds : List Dt}, aH K C H vs ds → ∀ n, aH K C H (vs.drop n) (ds.drop n)
  | _, _, .nil, n => by rw [List.drop_nil, List.drop_nil]; exact .nil
  | _, _, .cons h r, 0 => .cons h r
  | _, _, .cons h r, n + 1 => r.drop n
theorem aH.take : ∀ {vs : List V} {ds : List Dt}, aH K C H vs ds → ∀ n, aH K C H (vs.take n) (ds.take n)
  | _, _, .nil, n => by rw [List.take_nil, List.take_nil]; exact .nil
  | _, _, .cons h r, 0 => .nil
  | _, _, .cons h r, n + 1 => .cons h (r.take n)
theorem aH.set : ∀ {vs : List V} {ds : List Dt}, aH K C H vs ds → ∀ (i : Nat) {v : V} {d : Dt}, Rep K C H v d → aH K C H (vs.set i v) (ds.set i d)
  | _, _, .nil, i, v, d, h => .nil
  | _, _, .cons h r, 0, v, d, h' => .cons h' r
  | _, _, .cons h r, n + 1, v, d, h' => .cons h (r.set n h')
def nY : List (Key × Dt) → Key → Option Dt
  | [], _ => none
  | (k, d) :: r, j => if k = j then some d else nY r j
theorem jr.len : ∀ {vs : List (Key × V)} {ds : List (Key × Dt)}, jr K C H vs ds → vs.length = ds.length
  | _, _, .nil => rfl
  | _, _, .cons _ r => by rw [List.length_cons, List.length_cons, r.len]
theorem jr.keys : ∀ {vs : List (Key × V)} {ds : List (Key × Dt)}, jr K C H vs ds → vs.map (·.1) = ds.map (·.1)
  | _, _, .nil => rfl
  | _, _, .cons _ r => by rw [List.map_cons, List.map_cons, r.keys]
theorem jr.get : ∀ {vs : List (Key × V)} {ds : List (Key × Dt)}, jr K C H vs ds → ∀ (j : Key), (valV vs j = none ∧ nY ds j = none) ∨ ∃ v d, valV vs j = some v ∧ nY ds j = some d ∧ Rep K C H v d
  | _, _, .nil, j => .inl ⟨rfl, rfl⟩
  | _, _, .cons (k := k) (v := v) (d := d) h r, j => by
    by_cases e : k = j
    · exact .inr ⟨v, d, valV_pos (p := (k, v)) e, by unfold nY; rw [if_pos e], h⟩
    · rw [valV_neg (p := (k, v)) e]
      show (_ ∧ (if k = j then some d else nY _ j) = none) ∨ ∃ v' d', _ ∧ (if k = j then some d else nY _ j) = some d' ∧ _
      rw [if_neg e]
      exact r.get j
end
open Classical in
noncomputable def mask (O : Addr → Prop) (H : Hp) : Hp := fun a => if O a then none else H a
section
variable {O O' : Addr → Prop} {H H' : Hp}
theorem aZ {a : Addr} (h : ¬ O a) : mask O H a = H a := if_neg h
theorem lV {a : Addr} (h : O a) : mask O H a = none := if_pos h
theorem aG : Same (mask O H) H := fun a o e => by
  by_cases h : O a
  · rw [lV h] at e
    cases e
  · rw [aZ h] at e
    exact e
theorem b9 {a : Addr} {o : HO} (e : mask O H a = some o) : ¬ O a ∧ H a = some o := by
  by_cases h : O a
  · rw [lV h] at e
    cases e
  · rw [aZ h] at e
    exact ⟨h, e⟩
theorem aQ (s : Same H H') : Same (mask O H) (mask O H') := fun a o e => by
  obtain ⟨h, e⟩ := b9 e
  rw [aZ h]
  exact s _ _ e
theorem iS (s : ∀ a, O' a → O a) : Same (mask O H) (mask O' H) := fun a o e => by
  obtain ⟨h, e⟩ := b9 e
  rw [aZ fun z => h (s a z)]
  exact e
theorem oq : mask (fun _ => False) H = H := funext fun a => aZ (fun z => z)
end
def isTup : HO → Bool
  | .tup _ => true
  | _ => false
def Al (O : Addr → Prop) (H : Hp) : Prop := ∀ a, O a → ∃ o, H a = some o ∧ isTup o = false
theorem Al.keep {O : Addr → Prop} {H H' : Hp} (h : Al O H) (s : Same H H') : Al O H' := fun a ha => by
  obtain ⟨o, e, t⟩ := h a ha
  exact ⟨o, s _ _ e, t⟩
theorem Al.new {O : Addr → Prop} {H : Hp} {p : Addr} (h : Al O H) (e : H p = none) : ¬ O p := fun z => by
  obtain ⟨o, e', _⟩ := h p z
  rw [e] at e'
  cases e'
theorem Al.tup {O : Addr → Prop} {H : Hp} {p : Addr} {xs : List V} (h : Al O H) (e : H p = some (.tup xs)) : ¬ O p := fun z => by
  obtain ⟨o, e', t⟩ := h p z
  rw [e] at e'
  cases e'
  cases t
inductive Sl
  | no
  | sh (d : Dt)
  | ow (ds : List Dt)
  | od (d : Dt)
abbrev En := List Sl
noncomputable def only (R : Addr → Prop) (H : Hp) : Hp := mask (fun a => ¬ R a ∧ ∀ o, H a = some o → isTup o = false) H
theorem nV {R : Addr → Prop} {H : Hp} {a : Addr} {o : HO} (h : only R H a = some o) : (R a ∨ isTup o = true) ∧ H a = some o := by
  obtain ⟨h1, h2⟩ := b9 h
  refine ⟨Classical.byContradiction fun z => h1 ⟨fun r => z (.inl r), fun o' e => ?_⟩, h2⟩
  rw [h2] at e
  cases e
  cases e2 : isTup o with
  | false => rfl
  | true => exact absurd (.inr e2) z
theorem qI {R : Addr → Prop} {H : Hp} {a : Addr} {o : HO} (h : R a ∨ isTup o = true) (e : H a = some o) : only R H a = some o := by
  unfold only
  rw [aZ]
  · exact e
  · rintro ⟨h1, h2⟩
    have := h2 o e
    rcases h with h | h
    · exact h1 h
    · rw [h] at this
      cases this
theorem iW {R R' : Addr → Prop} {H H' : Hp} (h : ∀ a o, R a → H a = some o → R' a ∧ H' a = some o) (ht : ∀ a xs, H a = some (.tup xs) → H' a = some (.tup xs)) : Same (only R H) (only R' H') := fun a o e => by
  obtain ⟨h1, h2⟩ := nV e
  rcases h1 with h1 | h1
  · obtain ⟨k1, k2⟩ := h a o h1 h2
    exact qI (.inl k1) k2
  · cases o with
    | tup xs => exact qI (.inr rfl) (ht a xs h2)
    | _ => cases h1
structure Ec (K : PySem.W.Frag) (C : Cf) (B O : Addr → Prop) (H : Hp) (σ : L2.St) (env : En) (R : Nat → Addr → Prop) : Prop where
  get : ∀ (i : Nat) (d : Dt), env[i]? = some (.od d) → ∃ v, σ[i]? = some (some v) ∧ Rep K ⟨C.c, none⟩ (only (R i) H) v d
  le : ∀ (i : Nat) (a : Addr), R i a → O a ∧ ¬ B a
  dj : ∀ (i j : Nat) (a : Addr), R i a → R j a → i = j
  ow : ∀ (i j : Nat) (ds : List Dt) (p : Addr), env[j]? = some (.ow ds) → σ[j]? = some (some (.ref p)) → ¬ R i p
theorem Ec.mono {K : PySem.W.Frag} {C : Cf} {B O B' O' : Addr → Prop} {H H' : Hp} {σ σ' : L2.St} {env env' : En} {R : Nat → Addr → Prop} (r : Ec K C B O H σ env R)
    (h1 : ∀ (i : Nat) (d : Dt), env'[i]? = some (.od d) → env[i]? = some (.od d) ∧ σ'[i]? = σ[i]?) (h2 : ∀ (i : Nat) (a : Addr), R i a → O' a ∧ ¬ B' a)
    (h3 : ∀ (i : Nat) (a : Addr) (o : HO), R i a → H a = some o → H' a = some o) (ht : ∀ a xs, H a = some (.tup xs) → H' a = some (.tup xs))
    (h4 : ∀ (i j : Nat) (ds : List Dt) (p : Addr), env'[j]? = some (.ow ds) → σ'[j]? = some (some (.ref p)) → ¬ R i p) : Ec K C B' O' H' σ' env' R where
  get := fun i d e => by
    obtain ⟨e1, e2⟩ := h1 i d e
    obtain ⟨v, v1, v2⟩ := r.get i d e1
    exact ⟨v, e2.trans v1, v2.keep (iW (fun a o ha ho => ⟨ha, h3 i a o ha ho⟩) ht)⟩
  le := h2
  dj := r.dj
  ow := h4
theorem Ec.non {K : PySem.W.Frag} {C : Cf} {B O : Addr → Prop} {H : Hp} {σ : L2.St} {env : En} (h : ∀ (i : Nat) (d : Dt), env[i]? ≠ some (.od d)) : ∃ R, Ec K C B O H σ env R :=
  ⟨fun _ _ => False, ⟨fun i d e => absurd e (h i d), fun _ _ z => z.elim, fun _ _ _ z => z.elim, fun _ _ _ _ _ _ z => z⟩⟩
structure cG (K : PySem.W.Frag) (C : Cf) (B O : Addr → Prop) (H : Hp) (σ : L2.St) (env : En) : Prop where
  len : σ.length = env.length
  sh : ∀ (i : Nat) (d : Dt), env[i]? = some (.sh d) → ∃ v, σ[i]? = some (some v) ∧ Rep K C (mask O H) v d
  ow : ∀ (i : Nat) (ds : List Dt), env[i]? = some (.ow ds) → ∃ p vs, σ[i]? = some (some (.ref p)) ∧ O p ∧ ¬ B p ∧ H p = some (.lst vs) ∧ aH K C (mask O H) vs ds
  nd : ∀ (i j : Nat) (ds es : List Dt) (p : Addr), env[i]? = some (.ow ds) → env[j]? = some (.ow es) → σ[i]? = some (some (.ref p)) → σ[j]? = some (some (.ref p)) → i = j
  al : Al O H
  bo : ∀ a, B a → O a
  od : ∃ R, Ec K C B O H σ env R
section
variable {K : PySem.W.Frag} {C : Cf} {B O O' : Addr → Prop} {H H' : Hp} {σ : L2.St} {env : En}
theorem cG.keep (h : cG K C B O H σ env) (s : Same H H') : cG K C B O H' σ env where
  len := h.len
  sh := fun i d e => by
    obtain ⟨v, h1, h2⟩ := h.sh i d e
    exact ⟨v, h1, h2.keep (aQ s)⟩
  ow := fun i ds e => by
    obtain ⟨p, vs, h1, h2, h3, h4, h5⟩ := h.ow i ds e
    exact ⟨p, vs, h1, h2, h3, s _ _ h4, h5.keep (aQ s)⟩
  nd := h.nd
  al := h.al.keep s
  bo := h.bo
  od := by
    obtain ⟨R, r⟩ := h.od
    exact ⟨R, r.mono (fun _ _ e => ⟨e, rfl⟩) r.le (fun _ _ o _ e => s _ _ e) (fun _ _ e => s _ _ e) r.ow⟩
theorem getset {α : Type} {xs : List α} {i j : Nat} {x y : α} (h : (xs.set i x)[j]? = some y) : (j = i ∧ y = x) ∨ (j ≠ i ∧ xs[j]? = some y) := by
  by_cases e : i = j
  · subst e
    by_cases hl : i < xs.length
    · rw [List.getElem?_set_self hl] at h
      exact .inl ⟨rfl, (Option.some.inj h).symm⟩
    · rw [List.getElem?_eq_none (by rw [List.length_set]; omega)] at h
      cases h
  · rw [List.getElem?_set_ne e] at h
    exact .inr ⟨fun z => e z.symm, h⟩
theorem cG.set (h : cG K C B O H σ env) {i : Nat} {v : V} {d : Dt} (r : Rep K C (mask O H) v d) : cG K C B O H (σ.set i (some v)) (env.set i (.sh d)) where
  len := by rw [List.length_set, List.length_set]; exact h.len
  sh := fun j d' e => by
    rcases getset e with ⟨rfl, e'⟩ | ⟨ne, e'⟩
    · cases e'
      have hl : j < σ.length := by
        rw [h.len]
        have := (List.getElem?_eq_some_iff.mp e).1
        rw [List.length_set] at this
        exact this
      exact ⟨v, List.getElem?_set_self hl, r⟩
    · obtain ⟨v', h1, h2⟩ := h.sh j d' e'
      exact ⟨v', by rw [List.getElem?_set_ne ne.symm]; exact h1, h2⟩
  ow := fun j ds e => by
    rcases getset e with ⟨rfl, e'⟩ | ⟨ne, e'⟩
    · cases e'
    · obtain ⟨p, vs, h1, h2⟩ := h.ow j ds e'
      exact ⟨p, vs, by rw [List.getElem?_set_ne ne.symm]; exact h1, h2⟩
  nd := fun j k ds es p e1 e2 e3 e4 => by
    rcases getset e1 with ⟨rfl, e'⟩ | ⟨n1, e'⟩
    · cases e'
    · rcases getset e2 with ⟨rfl, e''⟩ | ⟨n2, e''⟩
      · cases e''
      · rw [List.getElem?_set_ne n1.symm] at e3
        rw [List.getElem?_set_ne n2.symm] at e4
        exact h.nd j k ds es p e' e'' e3 e4
  al := h.al
  bo := h.bo
  od := by
    obtain ⟨R, r⟩ := h.od
    refine ⟨R, r.mono (fun j d e => ?_) r.le (fun _ _ _ _ e => e) (fun _ _ e => e) fun k j ds p e1 e2 => ?_⟩
    · rcases getset e with ⟨rfl, e'⟩ | ⟨ne, e'⟩
      · cases e'
      · exact ⟨e', List.getElem?_set_ne ne.symm⟩
    · rcases getset e1 with ⟨rfl, e'⟩ | ⟨ne, e'⟩
      · cases e'
      · rw [List.getElem?_set_ne ne.symm] at e2
        exact r.ow k j ds p e' e2
theorem cG.wipe1 (h : cG K C B O H σ env) {i : Nat} {o : Option V} : cG K C B O H (σ.set i o) (env.set i .no) where
  len := by rw [List.length_set, List.length_set]; exact h.len
  sh := fun j d' e => by
    rcases getset e with ⟨rfl, e'⟩ | ⟨ne, e'⟩
    · cases e'
    · obtain ⟨v', h1, h2⟩ := h.sh j d' e'
      exact ⟨v', by rw [List.getElem?_set_ne ne.symm]; exact h1, h2⟩
  ow := fun j ds e => by
    rcases getset e with ⟨rfl, e'⟩ | ⟨ne, e'⟩
    · cases e'
    · obtain ⟨p, vs, h1, h2⟩ := h.ow j ds e'
      exact ⟨p, vs, by rw [List.getElem?_set_ne ne.symm]; exact h1, h2⟩
  nd := fun j k ds es p e1 e2 e3 e4 => by
    rcases getset e1 with ⟨rfl, e'⟩ | ⟨n1, e'⟩
    · cases e'
    · rcases getset e2 with ⟨rfl, e''⟩ | ⟨n2, e''⟩
      · cases e''
      · rw [List.getElem?_set_ne n1.symm] at e3
        rw [List.getElem?_set_ne n2.symm] at e4
        exact h.nd j k ds es p e' e'' e3 e4
  al := h.al
  bo := h.bo
  od := by
    obtain ⟨R, r⟩ := h.od
    refine ⟨R, r.mono (fun j d e => ?_) r.le (fun _ _ _ _ e => e) (fun _ _ e => e) fun k j ds p e1 e2 => ?_⟩
    · rcases getset e with ⟨rfl, e'⟩ | ⟨ne, e'⟩
      · cases e'
      · exact ⟨e', List.getElem?_set_ne ne.symm⟩
    · rcases getset e1 with ⟨rfl, e'⟩ | ⟨ne, e'⟩
      · cases e'
      · rw [List.getElem?_set_ne ne.symm] at e2
        exact r.ow k j ds p e' e2
def fZ (env : En) : List Nat → En
  | [] => env
  | v :: vs => (fZ env vs).set v .no
theorem cG.wipe (h : cG K C B O H σ env) : ∀ vs : List Nat, cG K C B O H (L2.wipe σ vs) (fZ env vs)
  | [] => h
  | v :: vs => (h.wipe vs).wipe1
end
section
variable (K : PySem.W.Frag) (C : Cf)
def eu (te : TE) (env : En) (o : Option Dt) : Prop := ∀ d, o = some d → ∀ B O H σ, cG K C B O H σ env → ∀ Q : VK, (∀ H' v, Same H H' → Rep K C (mask O H') v d → Q v H') → te σ H Q
def zG (tt : TT) (env : En) (o : Option Bool) : Prop := ∀ b, o = some b → ∀ B O H σ, cG K C B O H σ env → ∀ Q : Bool → Hp → Prop, (∀ H', Same H H' → Q b H') → tt σ H Q
def Hg (ta : TA) (env : En) (o : Option (List Dt)) : Prop := ∀ ds, o = some ds → ∀ B O H σ, cG K C B O H σ env → ∀ Q : List V → Hp → Prop, (∀ H' vs, Same H H' → aH K C (mask O H') vs ds → Q vs H') → ta σ H Q
def UZ (to : TO) (env : En) (o : Option (Option Int)) : Prop := ∀ i, o = some i → ∀ B O H σ, cG K C B O H σ env → ∀ Q : Option Int → Hp → Prop, (∀ H', Same H H' → Q i H') → to σ H Q
def vn (te : TE) (env : En) (o : Option (List Dt)) : Prop := ∀ ds, o = some ds → ∀ B O H σ, cG K C B O H σ env → ∀ Q : VK, (∀ H' p vs, Same H H' → H p = none → H' p = some (.lst vs) → aH K C (mask (fun a => O a ∨ a = p) H') vs ds → Q (.ref p) H') → te σ H Q
inductive Rs
  | nx (e : En)
  | rt (d : Dt)
  | bk (e : En)
  | ct (e : En)
def Pg (B O : Addr → Prop) (H : Hp) (O' : Addr → Prop) (H' : Hp) : Prop := Same (mask O H) (mask O' H') ∧ ∀ a, B a → H' a = H a
def Post (B O : Addr → Prop) (H : Hp) (D : Ends) : Rs → Prop
  | .nx e => ∀ O' H' σ', Pg B O H O' H' → cG K C B O' H' σ' e → D.nx σ' H'
  | .rt d => ∀ O' H' v, Pg B O H O' H' → (∀ a, B a → O' a) → Rep K C (mask O' H') v d → D.rt v H'
  | .bk e => ∀ O' H' σ', Pg B O H O' H' → cG K C B O' H' σ' e → D.bk σ' H'
  | .ct e => ∀ O' H' σ', Pg B O H O' H' → cG K C B O' H' σ' e → D.ct σ' H'
def lG (ts : L2.TS) (env : En) (o : Option Rs) : Prop := ∀ r, o = some r → ∀ B O H σ, cG K C B O H σ env → ∀ D : Ends, Post K C B O H D r → ts D σ H
def Np (R : L2.St → L2.St → Prop) (g : TG) (f : Dt → En → Option En) : Prop := ∀ d env env', f d env = some env' → ∀ B O H σ v, cG K C B O H σ env → Rep K C (mask O H) v d → ∀ Q : L2.St → Hp → Prop, (∀ σ', R σ' σ → cG K C B O H σ' env' → Q σ' H) → g v σ H Q
def Nt (R : L2.St → L2.St → Prop) (g : TGs) (f : List Dt → En → Option En) : Prop := ∀ ds env env', f ds env = some env' → ∀ B O H σ vs, cG K C B O H σ env → aH K C (mask O H) vs ds → ∀ Q : L2.St → Hp → Prop, (∀ σ', R σ' σ → cG K C B O H σ' env' → Q σ' H) → g vs σ H Q
structure Wk (S : Hp) (J : It) (xs : List Dt) : Prop where
  ex : ∃ (G : Hp → Prop) (Y : Nat → Hp → V → Hp → Prop), Walk J xs.length G Y ∧ (∀ H, Same S H → G H) ∧
    ∀ i H v H' d, Y i H v H' → xs[i]? = some d → Same H H' ∧ ∀ O', Al O' H → Same S (mask O' H) → Rep K C (mask O' H') v d
def TZ (wi : TI) (env : En) (o : Option (List Dt)) : Prop := ∀ xs, o = some xs → ∀ B O H σ, cG K C B O H σ env → ∀ R : It → Hp → Prop, (∀ H' J, Same H H' → Wk K C (mask O H') J xs → R J H') → wi σ H R
end
theorem Pg.of {B O : Addr → Prop} {H H' : Hp} (bo : ∀ a, B a → O a) (al : Al O H) (s : Same H H') : Pg B O H O H' := ⟨aQ s, fun a ha => by
  obtain ⟨o, e, _⟩ := al a (bo a ha)
  rw [e]
  exact s a o e⟩
theorem Pg.trans {B O O1 O2 : Addr → Prop} {H H1 H2 : Hp} (a : Pg B O H O1 H1) (b : Pg B O1 H1 O2 H2) : Pg B O H O2 H2 := ⟨fun x o e => b.1 x o (a.1 x o e), fun x hx => (b.2 x hx).trans (a.2 x hx)⟩
theorem Pg.refl {B O : Addr → Prop} {H : Hp} : Pg B O H O H := ⟨fun _ _ e => e, fun _ _ => rfl⟩
end DL
namespace DL
open PySem PySem.Spec PyProof.Rows L2
def o2 (f : Dt → Dt → Option Dt) (a b : Option Dt) : Option Dt := a.bind fun x => b.bind fun y => f x y
def o1 (f : Dt → Option Dt) (a : Option Dt) : Option Dt := a.bind f
def ao (env : En) (i : Nat) : Option Dt := match env[i]? with
  | some (.sh d) => some d
  | _ => none
def ai (a : Option Dt) (r : Option (List Dt)) : Option (List Dt) := a.bind fun x => r.map fun xs => x :: xs
def sz (n : Nat) : Bool := decide (n ≤ 1000000)
theorem lA {n : Nat} (h : sz n = true) : n ≤ sizeLine := Nat.le_trans (of_decide_eq_true h) (by decide)
def guard (b : Bool) (d : Dt) : Option Dt := if b = true then some d else none
theorem bG {b : Bool} {d e : Dt} (h : guard b d = some e) : b = true ∧ d = e := by
  unfold guard at h
  by_cases hb : b = true
  · rw [if_pos hb] at h
    exact ⟨hb, Option.some.inj h⟩
  · rw [if_neg hb] at h
    cases h
def fu (xs : List Dt) : Option Dt := guard (sz xs.length) (.tup xs)
def cA : Dt → Dt → Option Dt
  | .int i, .int j => some (.int (i + j))
  | .str s, .str t => guard (sz (s.length + t.length)) (.str (s ++ t))
  | .lst xs, .lst ys => guard (sz (xs.length + ys.length)) (.lst (xs ++ ys))
  | .tup xs, .tup ys => guard (!xs.isEmpty && sz (xs.length + ys.length)) (.tup (xs ++ ys))
  | _, _ => none
def Du : Dt → Dt → Option Dt
  | .int i, .int j => some (.int (i - j))
  | _, _ => none
def nb (i : Int) : Nat := i.natAbs.log2
def jN : Dt → Dt → Option Dt
  | .int i, .int j => guard (decide (nb i + nb j < 900000)) (.int (i * j))
  | .lst xs, .int k => guard (decide (k ≤ 1000000) && (decide (-1000000 ≤ k) && sz (xs.length * k.toNat))) (.lst (List.replicate k.toNat xs).flatten)
  | _, _ => none
def HP : Dt → Dt → Option Dt
  | .int i, .int j => guard (decide (j ≠ 0) && decide (nb j < 9000)) (.int (i.fdiv j))
  | _, _ => none
def dD : Dt → Dt → Option Dt
  | .int i, .int j => guard (decide (j ≠ 0)) (.int (i.fmod j))
  | _, _ => none
def RB : Dt → Option Dt
  | .int i => some (.int (-i))
  | _ => none
def BX (f : Int → Int → Bool) : Dt → Dt → Option Dt
  | .int i, .int j => some (.bl (f i j))
  | _, _ => none
mutual
def qu : Dt → Option PyData
  | .non => some .none
  | .bl b => some (.bool b)
  | .int i => some (.int i)
  | .str s => some (.str s)
  | .lst xs => (kN xs).map .list
  | .tup xs => (kN xs).map .tuple
  | .dic _ => none
  | .yard _ => none
  | .ins _ _ _ _ => none
  | .scr _ => none
  | .ys _ => none
  | .dia _ => none
def kN : List Dt → Option (List PyData)
  | [] => some []
  | d :: ds => match qu d, kN ds with
    | some a, some b => some (a :: b)
    | _, _ => none
end
def lK (neg : Bool) (a b : Dt) : Option Dt := (qu a).bind fun p => (qu b).bind fun q => guard (SeqAt.shaped p && SeqAt.shaped q) (.bl (if neg then !PyData.eqv p q else PyData.eqv p q))
def Vw : Dt → Option Key
  | .int i => some (.inl i)
  | .str s => some (.inr s)
  | _ => none
def cY : Dt → Dt → Option Dt
  | .lst xs, .int i => atI xs i
  | .tup xs, .int i => atI xs i
  | .str s, .int i => if sz s.length = true then (atI s.cps.toList i).map fun c => .str ⟨#[c]⟩ else none
  | .dic kds, .int i => nY kds (.inl i)
  | .dic kds, .str s => nY kds (.inr s)
  | _, _ => none
def Gq : Dt → Bool
  | .non => true
  | .bl _ => true
  | .int _ => true
  | .str _ => true
  | _ => false
section
variable (K : PySem.W.Frag) (C : Cf)
def HF (r : R2) (f : Dt → Dt → Option Dt) : Prop := ∀ O H x y a b d, Al O H → Rep K C (mask O H) x a → Rep K C (mask O H) y b → f a b = some d → ∀ Q : VK, (∀ H' v, Same H H' → Rep K C (mask O H') v d → Q v H') → r x y H Q
def VQ (r : V → Hp → VK → Prop) (f : Dt → Option Dt) : Prop := ∀ O H x a d, Al O H → Rep K C (mask O H) x a → f a = some d → ∀ Q : VK, (∀ H' v, Same H H' → Rep K C (mask O H') v d → Q v H') → r x H Q
def Vc (r : List V → Hp → VK → Prop) (f : List Dt → Option Dt) : Prop := ∀ O H xs ds d, Al O H → aH K C (mask O H) xs ds → f ds = some d → ∀ Q : VK, (∀ H' v, Same H H' → Rep K C (mask O H') v d → Q v H') → r xs H Q
end
section
variable {K : PySem.W.Frag} {C : Cf} {O : Addr → Prop} {H : Hp} {env : En} {ta tb te : TE}
theorem same_refl (H : Hp) : Same H H := fun _ _ e => e
theorem cR {p : Addr} {o : HO} (h : H p = none) : Same H (upd H p o) := fun b x e => by
  rw [upd_ne (ne_of_none e h)]
  exact e
theorem Ce (al : Al O H) {p : Addr} {o : HO} (h : H p = none) : mask O (upd H p o) p = some o := by
  rw [aZ (al.new h)]
  exact upd_same
theorem qA (al : Al O H) {p : Addr} {vs : List V} {ds : List Dt} (h : H p = none) (r : aH K C (mask O H) vs ds) : Rep K C (mask O (upd H p (.lst vs))) (.ref p) (.lst ds) :=
  .lst (Ce al h) (r.keep (aQ (cR h)))
theorem qx (al : Al O H) {p : Addr} {vs : List V} {ds : List Dt} (h : H p = none) (r : aH K C (mask O H) vs ds) : Rep K C (mask O (upd H p (.tup vs))) (.ref p) (.tup ds) :=
  .tup (Ce al h) (r.keep (aQ (cR h)))
theorem aa (i : Nat) : eu K C (tVar i) env (ao env i) := fun d e B O H σ st Q q => by
  unfold ao at e
  split at e
  · next d' h =>
    cases e
    obtain ⟨v, h1, h2⟩ := st.sh i d h
    exact ⟨v, h1, q H v (same_refl H) h2⟩
  · cases e
theorem ID {v : V} {d : Dt} (h : ∀ H, Rep K C H v d) : eu K C (tC v) env (some d) := fun d' e B O H σ st Q q => by
  cases e
  exact q H v (same_refl H) (h _)
theorem Fq (b : Bool) : eu K C (tC (.bl b)) env (some (.bl b)) := ID fun _ => .bl
theorem ah (i : Int) : eu K C (tC (.int i)) env (some (.int i)) := ID fun _ => .int
theorem aM (s : Str) : eu K C (tC (.str s)) env (some (.str s)) := ID fun _ => .str
theorem aj {r : R2} {f : Dt → Dt → Option Dt} {a b : Option Dt} (hr : HF K C r f) (ha : eu K C ta env a) (hb : eu K C tb env b) : eu K C (tOp r ta tb) env (o2 f a b) := fun d e B O H σ st Q q => by
  cases ea : a with
  | none => rw [ea] at e; cases e
  | some x =>
    cases eb : b with
    | none => rw [ea, eb] at e; cases e
    | some y =>
      rw [ea, eb] at e
      refine ha x ea B O H σ st _ fun H1 v s1 r1 => hb y eb B O H1 σ (st.keep s1) _ fun H2 u s2 r2 => ?_
      exact hr O H2 v u x y d ((st.al.keep s1).keep s2) (r1.keep (aQ s2)) r2 e Q fun H3 z s3 r3 => q H3 z (fun _ _ h => s3 _ _ (s2 _ _ (s1 _ _ h))) r3
theorem Rj {r : V → Hp → VK → Prop} {f : Dt → Option Dt} {a : Option Dt} (hr : VQ K C r f) (ha : eu K C ta env a) : eu K C (tUn r ta) env (o1 f a) := fun d e B O H σ st Q q => by
  cases ea : a with
  | none => rw [ea] at e; cases e
  | some x =>
    rw [ea] at e
    exact ha x ea B O H σ st _ fun H1 v s1 r1 => hr O H1 v x d (st.al.keep s1) r1 e Q fun H3 z s3 r3 => q H3 z (fun _ _ h => s3 _ _ (s1 _ _ h)) r3
theorem au : Hg K C tNil env (some []) := fun ds e B O H σ st Q q => by
  cases e
  exact q H [] (same_refl H) .nil
theorem af {tr : TA} {a : Option Dt} {r : Option (List Dt)} (ha : eu K C ta env a) (hr : Hg K C tr env r) : Hg K C (tCons ta tr) env (ai a r) := fun ds e B O H σ st Q q => by
  cases ea : a with
  | none => rw [ea] at e; cases e
  | some x =>
    cases er : r with
    | none => rw [ea, er] at e; cases e
    | some xs =>
      rw [ea, er] at e
      cases e
      refine ha x ea B O H σ st _ fun H1 v s1 r1 => hr xs er B O H1 σ (st.keep s1) _ fun H2 vs s2 r2 => ?_
      exact q H2 (v :: vs) (fun _ _ h => s2 _ _ (s1 _ _ h)) (.cons (r1.keep (aQ s2)) r2)
theorem cN {ta : TA} {a : Option (List Dt)} (ha : Hg K C ta env a) : eu K C (tTup ta) env (a.bind fu) := fun d e B O H σ st Q q => by
  cases ea : a with
  | none => rw [ea] at e; cases e
  | some xs =>
    rw [ea] at e
    obtain ⟨hz, rfl⟩ := bG e
    refine ha xs ea B O H σ st _ fun H1 vs s1 r1 => ⟨by rw [r1.len]; exact lA hz, fun p hp => ?_⟩
    exact q _ _ (fun _ _ h => cR hp _ _ (s1 _ _ h)) (qx (st.al.keep s1) hp r1)
def vm (xs : List Dt) : Option (List Dt) := if sz xs.length = true then some xs else none
theorem vn.d {a : Option (List Dt)} (h : vn K C te env a) : eu K C te env (a.map .lst) := fun d e B O H σ st Q q => by
  cases ea : a with
  | none => rw [ea] at e; cases e
  | some xs =>
    rw [ea] at e
    cases e
    refine h xs ea B O H σ st _ fun H1 p vs s1 np hp r1 => q H1 (.ref p) s1 (.lst ?_ (r1.keep (iS fun a z => .inl z)))
    rw [aZ (st.al.new np)]
    exact hp
theorem mJ (al : Al O H) {p : Addr} {o : HO} (h : H p = none) : Same (mask O H) (mask (fun a => O a ∨ a = p) (upd H p o)) := fun a o' e => by
  obtain ⟨h1, h2⟩ := b9 e
  have ne : a ≠ p := ne_of_none h2 h
  rw [aZ (fun z => z.elim h1 ne), upd_ne ne]
  exact h2
theorem dJ {ta : TA} {a : Option (List Dt)} (ha : Hg K C ta env a) : vn K C (tLst ta) env (a.bind vm) := fun d e B O H σ st Q q => by
  cases ea : a with
  | none => rw [ea] at e; cases e
  | some xs =>
    rw [ea] at e
    have e : (if sz xs.length = true then some xs else none) = some d := e
    by_cases hz : sz xs.length = true
    · rw [if_pos hz] at e
      have e := Option.some.inj e
      subst e
      refine ha _ ea B O H σ st _ fun H1 vs s1 r1 => ⟨by rw [r1.len]; exact lA hz, fun p hp => ?_⟩
      have hp0 : H p = none := by
        cases h : H p with
        | none => rfl
        | some o => rw [s1 _ _ h] at hp; cases hp
      exact q _ p vs (fun _ _ h => cR hp _ _ (s1 _ _ h)) hp0 upd_same (r1.keep (mJ (st.al.keep s1) hp))
    · rw [if_neg hz] at e
      cases e
theorem fc {r : List V → Hp → VK → Prop} {f : List Dt → Option Dt} {ta : TA} {a : Option (List Dt)} (hr : Vc K C r f) (ha : Hg K C ta env a) : eu K C (tCB r ta) env (a.bind f) := fun d e B O H σ st Q q => by
  cases ea : a with
  | none => rw [ea] at e; cases e
  | some xs =>
    rw [ea] at e
    exact ha xs ea B O H σ st _ fun H1 v s1 r1 => hr O H1 v xs d (st.al.keep s1) r1 e Q fun H3 z s3 r3 => q H3 z (fun _ _ h => s3 _ _ (s1 _ _ h)) r3
def vj (K : PySem.W.Frag) (c : Cl) (n : Nat) (m : List Dt → Option Dt) : Sp := fun vs H Q _ => ∃ (lk : Option Addr) (O : Addr → Prop) (ds : List Dt) (d : Dt), Al O H ∧ ds.length = n ∧ aH K ⟨c, lk⟩ (mask O H) vs ds ∧ m ds = some d ∧ ∀ H' v, Same H H' → Rep K ⟨c, lk⟩ (mask O H') v d → Q v H'
def UR (K : PySem.W.Frag) (c : Cl) (n : Nat) (m : List Dt → Option Dt) : Sp := fun vs H Q _ => ∃ (O : Addr → Prop) (ds : List Dt) (d : Dt), Al O H ∧ ds.length = n ∧ aH K ⟨c, none⟩ (mask O H) vs ds ∧ m ds = some d ∧ ∀ H' v, Same H H' → Rep K ⟨c, none⟩ (mask O H') v d → Q v H'
theorem Su {c : Cl} {n : Nat} {m : List Dt → Option Dt} {vs : List V} {H : Hp} {Q : VK} {E : XK} (h : UR K c n m vs H Q E) : vj K c n m vs H Q E := ⟨none, h⟩
def ar (n : Nat) (m : List Dt → Option Dt) (ds : List Dt) : Option Dt := if ds.length = n then m ds else none
theorem Nj {n : Nat} {m : List Dt → Option Dt} {ds : List Dt} {d : Dt} (h : ar n m ds = some d) : ds.length = n ∧ m ds = some d := by
  unfold ar at h
  by_cases hn : ds.length = n
  · rw [if_pos hn] at h
    exact ⟨hn, h⟩
  · rw [if_neg hn] at h
    cases h
theorem aP {n : Nat} {m : List Dt → Option Dt} {E : XK} {ta : TA} {a : Option (List Dt)} (ha : Hg K C ta env a) : eu K C (tCall (vj K C.c n m) [] E ta) env (a.bind (ar n m)) := fun d e B O H σ st Q q => by
  cases ea : a with
  | none => rw [ea] at e; cases e
  | some xs =>
    rw [ea] at e
    obtain ⟨hn, e⟩ := Nj (show ar n m xs = some d from e)
    refine ha xs ea B O H σ st _ fun H1 vs s1 r1 => ⟨C.lk, O, xs, d, st.al.keep s1, hn, by rw [List.append_nil]; exact r1, e, fun H2 v s2 r2 => ?_⟩
    exact q H2 v (fun _ _ h => s2 _ _ (s1 _ _ h)) r2
def bD : Dt → Option Bool
  | .bl b => some b
  | _ => none
def j7 (a b : Option Bool) : Option Bool := a.bind fun x => if x = true then b else some false
def Mv (a b : Option Bool) : Option Bool := a.bind fun x => if x = true then some true else b
theorem bg {a : Option Dt} (ha : eu K C te env a) : zG K C (tTest te) env (a.bind bD) := fun b e B O H σ st Q q => by
  cases ea : a with
  | none => rw [ea] at e; cases e
  | some x =>
    rw [ea] at e
    cases x with
    | bl b' =>
      cases e
      refine ha _ ea B O H σ st _ fun H1 v s1 r1 => ?_
      cases r1
      exact ⟨b, rfl, q H1 s1⟩
    | _ => cases e
theorem Cm {a : Option Dt} (ha : eu K C te env a) : zG K C (tB te) env (a.bind bD) := bg ha
theorem kK {t u : TT} {a b : Option Bool} (ha : zG K C t env a) (hb : zG K C u env b) : zG K C (tAnd t u) env (j7 a b) := fun z e B O H σ st Q q => by
  cases ea : a with
  | none => rw [ea] at e; cases e
  | some x =>
    rw [ea] at e
    refine ha x ea B O H σ st _ fun H1 s1 => ?_
    cases x with
    | true => exact hb z e B O H1 σ (st.keep s1) Q fun H2 s2 => q H2 fun _ _ h => s2 _ _ (s1 _ _ h)
    | false =>
      cases e
      exact q H1 s1
theorem El {t u : TT} {a b : Option Bool} (ha : zG K C t env a) (hb : zG K C u env b) : zG K C (tOr t u) env (Mv a b) := fun z e B O H σ st Q q => by
  cases ea : a with
  | none => rw [ea] at e; cases e
  | some x =>
    rw [ea] at e
    refine ha x ea B O H σ st _ fun H1 s1 => ?_
    cases x with
    | true =>
      cases e
      exact q H1 s1
    | false => exact hb z e B O H1 σ (st.keep s1) Q fun H2 s2 => q H2 fun _ _ h => s2 _ _ (s1 _ _ h)
theorem kF {t : TT} {a : Option Bool} (ha : zG K C t env a) : zG K C (tNot t) env (a.map (!·)) := fun z e B O H σ st Q q => by
  cases ea : a with
  | none => rw [ea] at e; cases e
  | some x =>
    rw [ea] at e
    cases e
    exact ha x ea B O H σ st _ fun H1 s1 => q H1 s1
theorem lX : zG K C tYes env (some true) := fun b e B O H σ st Q q => by
  cases e
  exact q H (same_refl H)
def Qo (c : Option Bool) (a b : Option Dt) : Option Dt := c.bind fun x => if x = true then a else b
theorem Jk {t : TT} {c : Option Bool} {a b : Option Dt} (hc : zG K C t env c) (ha : eu K C ta env a) (hb : eu K C tb env b) : eu K C (tIf t ta tb) env (Qo c a b) := fun z e B O H σ st Q q => by
  cases ec : c with
  | none => rw [ec] at e; cases e
  | some x =>
    rw [ec] at e
    refine hc x ec B O H σ st _ fun H1 s1 => ?_
    cases x with
    | true => exact ha z e B O H1 σ (st.keep s1) Q fun H2 v s2 => q H2 v fun _ _ h => s2 _ _ (s1 _ _ h)
    | false => exact hb z e B O H1 σ (st.keep s1) Q fun H2 v s2 => q H2 v fun _ _ h => s2 _ _ (s1 _ _ h)
def pV (a b : Option Dt) : Option Dt := (a.bind bD).bind fun x => if x = true then b else some (.bl false)
def U6 (a b : Option Dt) : Option Dt := (a.bind bD).bind fun x => if x = true then some (.bl true) else b
def wC (a : Option Dt) : Option Dt := (a.bind bD).map fun x => .bl (!x)
theorem GF {a b : Option Dt} (ha : eu K C ta env a) (hb : eu K C tb env b) : eu K C (tAndV ta tb) env (pV a b) := fun z e B O H σ st Q q => by
  cases ec : a.bind bD with
  | none => unfold pV at e; rw [ec] at e; cases e
  | some x =>
    unfold pV at e
    rw [ec] at e
    refine (bg ha) x ec B O H σ st _ fun H1 s1 => ?_
    cases x with
    | true => exact hb z e B O H1 σ (st.keep s1) Q fun H2 v s2 => q H2 v fun _ _ h => s2 _ _ (s1 _ _ h)
    | false =>
      cases e
      exact q H1 _ s1 .bl
theorem Ni {a : Option Dt} (ha : eu K C ta env a) : eu K C (tNotV ta) env (wC a) := fun z e B O H σ st Q q => by
  cases ec : a.bind bD with
  | none => unfold wC at e; rw [ec] at e; cases e
  | some x =>
    unfold wC at e
    rw [ec] at e
    cases e
    exact (bg ha) x ec B O H σ st _ fun H1 s1 => q H1 _ s1 .bl
end
end DL
namespace DL
open PySem PySem.Spec PyProof.Rows L2
section
variable {X : Cx} {K : PySem.W.Frag} {C : Cf} {O : Addr → Prop} {H : Hp}
def Uu : R2 := fun x y H Q => ∃ i j : Str, x = .str i ∧ y = .str j ∧ i.length + j.length ≤ sizeLine ∧ Q (.str (i ++ j)) H
def bO (K : PySem.W.Frag) : R2 := fun x y H Q => rI0 (fun i j => .int (i + j)) x y H Q ∨ (Uu x y H Q ∨ (rCat x y H Q ∨ rCatT K x y H Q))
theorem aK : OpR X (binaryOp .Add) (bO X.K) := OpR.or op_add (OpR.or op_add_str (OpR.or op_cat op_catT))
theorem aH.nil_iff {vs : List V} {ds : List Dt} (r : aH K C H vs ds) : vs = [] ↔ ds = [] := by
  cases r <;> simp
theorem bu : HF K C (bO K) cA := fun O H x y a b d al ra rb e Q q => by
  cases ra with
  | int =>
    cases rb with
    | int =>
      cases e
      exact .inl ⟨_, _, rfl, rfl, q H _ (same_refl H) .int⟩
    | _ => cases e
  | str =>
    cases rb with
    | str =>
      obtain ⟨hz, rfl⟩ := bG e
      exact .inr (.inl ⟨_, _, rfl, rfl, lA hz, q H _ (same_refl H) .str⟩)
    | _ => cases e
  | lst h1 r1 =>
    cases rb with
    | lst h2 r2 =>
      obtain ⟨hz, rfl⟩ := bG e
      exact .inr (.inr (.inl ⟨_, _, _, _, rfl, rfl, aG _ _ h1, aG _ _ h2, by rw [r1.len, r2.len]; exact lA hz, fun p hp => q _ _ (cR hp) (qA al hp (r1.app r2))⟩))
    | _ => cases e
  | tup h1 r1 =>
    cases rb with
    | tup h2 r2 =>
      obtain ⟨hz, rfl⟩ := bG e
      obtain ⟨hz1, hz2⟩ := Bool.and_eq_true_iff.mp hz
      refine .inr (.inr (.inr ⟨_, _, _, _, rfl, rfl, SqT.of (aG _ _ h1), SqT.of (aG _ _ h2), ?_, by rw [r1.len, r2.len]; exact lA hz2, fun hy => ?_, fun hy p hp => q _ _ (cR hp) (qx al hp (r1.app r2))⟩))
      · intro z
        have := r1.nil_iff.mp z
        rw [this] at hz1
        cases hz1
      · have := r2.nil_iff.mp hy
        subst this
        rw [List.append_nil] at q
        exact q H _ (same_refl H) (.tup h1 r1)
    | _ => cases e
  | _ => cases e
theorem nS : HF K C (rI0 fun i j => .int (i - j)) Du := fun O H x y a b d al ra rb e Q q => by
  cases ra with
  | int =>
    cases rb with
    | int =>
      cases e
      exact ⟨_, _, rfl, rfl, q H _ (same_refl H) .int⟩
    | _ => cases e
  | _ => cases e
def iP : R2 := fun x y H Q => rI CMulW (fun i j => .int (i * j)) x y H Q ∨ rRep x y H Q
theorem eY : OpR X (binaryOp .Mult) iP := OpR.or op_mulW op_rep
theorem N7 {i j : Int} (h : nb i + nb j < 900000) : CMulW i j := by
  unfold CMulW
  unfold nb at h
  omega
theorem aH.rep {vs : List V} {ds : List Dt} (r : aH K C H vs ds) : ∀ n, aH K C H (List.replicate n vs).flatten (List.replicate n ds).flatten
  | 0 => .nil
  | n + 1 => by
    rw [List.replicate_succ, List.replicate_succ, List.flatten_cons, List.flatten_cons]
    exact r.app (r.rep n)
theorem gR : HF K C iP jN := fun O H x y a b d al ra rb e Q q => by
  cases ra with
  | int =>
    cases rb with
    | int =>
      obtain ⟨hz, rfl⟩ := bG e
      exact .inl ⟨_, _, rfl, rfl, N7 (of_decide_eq_true hz), q H _ (same_refl H) .int⟩
    | _ => cases e
  | lst h1 r1 =>
    cases rb with
    | int =>
      obtain ⟨hz, rfl⟩ := bG e
      obtain ⟨hz1, hz⟩ := Bool.and_eq_true_iff.mp hz
      obtain ⟨hz2, hz3⟩ := Bool.and_eq_true_iff.mp hz
      have a1 := of_decide_eq_true hz1
      have a2 := of_decide_eq_true hz2
      exact .inr ⟨_, _, _, rfl, rfl, aG _ _ h1, by omega, by omega, by rw [r1.len]; exact lA hz3, fun p hp => q _ _ (cR hp) (qA al hp (r1.rep _))⟩
    | _ => cases e
  | _ => cases e
def Oz (_ j : Int) : Prop := j ≠ 0 ∧ nb j < 9000
theorem qQ : OpR X (binaryOp .FloorDiv) (rI Oz fun i j => .int (i.fdiv j)) := opI fun i j _ _ _ _ _ hc q => floordiv_int hc.1 q (.inl (PyProof.noPylong_of_log2 hc.2))
theorem FY : HF K C (rI Oz fun i j => .int (i.fdiv j)) HP := fun O H x y a b d al ra rb e Q q => by
  cases ra with
  | int =>
    cases rb with
    | int =>
      obtain ⟨hz, rfl⟩ := bG e
      obtain ⟨hz1, hz2⟩ := Bool.and_eq_true_iff.mp hz
      exact ⟨_, _, rfl, rfl, ⟨of_decide_eq_true hz1, of_decide_eq_true hz2⟩, q H _ (same_refl H) .int⟩
    | _ => cases e
  | _ => cases e
theorem br : HF K C (rI (fun _ j => j ≠ 0) fun i j => .int (i.fmod j)) dD := fun O H x y a b d al ra rb e Q q => by
  cases ra with
  | int =>
    cases rb with
    | int =>
      obtain ⟨hz, rfl⟩ := bG e
      exact ⟨_, _, rfl, rfl, of_decide_eq_true hz, q H _ (same_refl H) .int⟩
    | _ => cases e
  | _ => cases e
theorem Tj : VQ K C (rU fun i => .int (-i)) RB := fun O H x a d al ra e Q q => by
  cases ra with
  | int =>
    cases e
    exact ⟨_, rfl, q H _ (same_refl H) .int⟩
  | _ => cases e
theorem nW {f : Int → Int → Bool} : HF K C (rI0 fun i j => .bl (f i j)) (BX f) := fun O H x y a b d al ra rb e Q q => by
  cases ra with
  | int =>
    cases rb with
    | int =>
      cases e
      exact ⟨_, _, rfl, rfl, q H _ (same_refl H) .bl⟩
    | _ => cases e
  | _ => cases e
mutual
theorem Rep.dp : ∀ {v : V} {d : Dt}, Rep K C H v d → ∀ {p : PyData}, qu d = some p → Dp K H v p
  | _, _, .non, p, e => by cases e; exact .non
  | _, _, .bl, p, e => by cases e; exact .bl _
  | _, _, .int, p, e => by cases e; exact .int _
  | _, _, .str, p, e => by cases e; exact .str _
  | _, _, .lst (ds := ds) h r, p, e => by
    cases e' : kN ds with
    | none => rw [qu, e'] at e; cases e
    | some ps =>
      rw [qu, e'] at e
      cases e
      exact .lst (SqL.of h) (aH.dp r e')
  | _, _, .tup (ds := ds) h r, p, e => by
    cases e' : kN ds with
    | none => rw [qu, e'] at e; cases e
    | some ps =>
      rw [qu, e'] at e
      cases e
      exact .tup (SqT.of h) (aH.dp r e')
  | _, _, .dic h r, p, e => by rw [qu] at e; cases e
  | _, _, .yard _ h, p, e => by rw [qu] at e; cases e
  | _, _, .ins h n r, p, e => by rw [qu] at e; cases e
  | _, _, .scr h, p, e => by rw [qu] at e; cases e
  | _, _, .ys _ _ _, p, e => by rw [qu] at e; cases e
  | _, _, .dia _ _, p, e => by rw [qu] at e; cases e
theorem aH.dp : ∀ {vs : List V} {ds : List Dt}, aH K C H vs ds → ∀ {ps : List PyData}, kN ds = some ps → DpAll K H vs ps
  | _, _, .nil, p, e => by rw [kN] at e; cases e; exact .nil
  | _, _, .cons (d := d) (ds := ds) h r, p, e => by
    cases e1 : qu d with
    | none => rw [kN, e1] at e; cases e
    | some a =>
      cases e2 : kN ds with
      | none => rw [kN, e1, e2] at e; cases e
      | some b =>
        rw [kN, e1, e2] at e
        cases e
        exact .cons (Rep.dp h e1) (aH.dp r e2)
end
theorem CL {neg : Bool} {a b d : Dt} (h : lK neg a b = some d) : ∃ p q, qu a = some p ∧ qu b = some q ∧ SeqAt.shaped p = true ∧ SeqAt.shaped q = true ∧ d = .bl (if neg then !PyData.eqv p q else PyData.eqv p q) := by
  unfold lK at h
  cases ea : qu a with
  | none => rw [ea] at h; cases h
  | some p =>
    cases eb : qu b with
    | none => rw [ea, eb] at h; cases h
    | some q =>
      rw [ea, eb] at h
      obtain ⟨hz, rfl⟩ := bG h
      obtain ⟨h1, h2⟩ := Bool.and_eq_true_iff.mp hz
      exact ⟨p, q, rfl, rfl, h1, h2, rfl⟩
theorem Rep.up {v : V} {d : Dt} (r : Rep K C (mask O H) v d) : Rep K C H v d := r.keep aG
theorem l9 : HF K C (rEqD K) (lK false) := fun O H x y a b d al ra rb e Q q => by
  obtain ⟨p, p', h1, h2, h3, h4, rfl⟩ := CL e
  exact ⟨p, p', ra.up.dp h1, rb.up.dp h2, h3, h4, q H _ (same_refl H) .bl⟩
theorem MP : HF K C (rNeD K) (lK true) := fun O H x y a b d al ra rb e Q q => by
  obtain ⟨p, p', h1, h2, h3, h4, rfl⟩ := CL e
  exact ⟨p, p', ra.up.dp h1, rb.up.dp h2, h3, h4, q H _ (same_refl H) .bl⟩
def Uk : R2 := fun x y H Q => ∃ a v, x = .ref a ∧ DGet H a y (some v) ∧ Q v H
theorem Nn (hu : X.A.units + 1 < cLine) : IxR X Uk := by
  intro value slice pins s σ H x y v u Q I rx ry h hs
  obtain ⟨a, z, rfl, g, q⟩ := h
  obtain rfl : v = Value.ref a := rx
  exact tail_any (dict_typeIs I g) PySem.F.slot_dict_getitem.lookup (d_getItem hu I g ry fun w' s3 I3 rw' => ⟨z, H, I3, rw', q⟩) hs
def bP (K : PySem.W.Frag) : R2 := fun x y H Q => rIx K x y H Q ∨ Uk x y H Q
theorem aF (hu : X.A.units + 1 < cLine) : IxR X (bP X.K) := ix_seq.or (Nn hu)
theorem aH.atI {vs : List V} {ds : List Dt} (r : aH K C H vs ds) {i : Int} {d : Dt} (h : L2.atI ds i = some d) : ∃ v, L2.atI vs i = some v ∧ Rep K C H v d := by
  unfold L2.atI at h ⊢
  rw [r.len]
  cases e : ixN ds.length i with
  | none => rw [e] at h; cases h
  | some j =>
    rw [e] at h
    exact r.get h
theorem Gu {p : Addr} {kvs : List (Key × V)} {k : Key} {v : V} (h : Rd H p (.dK kvs)) (e : valV kvs k = some v) : DGet H p (kV k) (some v) := .inl ⟨kvs, k, h, rfl, e.symm⟩
theorem bf : HF K C (bP K) cY := fun O H x y a b d al ra rb e Q q => by
  cases ra with
  | lst h1 r1 =>
    cases rb with
    | int =>
      obtain ⟨v, e1, r⟩ := r1.atI e
      exact .inl (.inl ⟨_, _, _, v, rfl, rfl, SqL.of (aG _ _ h1), e1, q H v (same_refl H) r⟩)
    | _ => cases e
  | tup h1 r1 =>
    cases rb with
    | int =>
      obtain ⟨v, e1, r⟩ := r1.atI e
      exact .inl (.inr (.inl ⟨_, _, _, v, rfl, rfl, SqT.of (aG _ _ h1), e1, q H v (same_refl H) r⟩))
    | _ => cases e
  | @str s =>
    cases rb with
    | @int i =>
      have e : (if sz s.length = true then (L2.atI s.cps.toList i).map fun c => Dt.str ⟨#[c]⟩ else none) = some d := e
      by_cases hz : sz s.length = true
      · rw [if_pos hz] at e
        cases ec : L2.atI s.cps.toList i with
        | none => rw [ec] at e; cases e
        | some c =>
          rw [ec] at e
          cases e
          exact .inl (.inr (.inr ⟨_, _, c, rfl, rfl, lA hz, ec, q H _ (same_refl H) .str⟩))
      · rw [if_neg hz] at e
        cases e
    | _ => cases e
  | dic h1 r1 =>
    cases rb with
    | int =>
      rcases r1.get (.inl _) with ⟨_, z⟩ | ⟨v, d', e1, e2, r⟩
      · have e : nY _ _ = some d := e
        rw [z] at e
        cases e
      · have e : nY _ _ = some d := e
        rw [e2] at e
        cases e
        exact .inr ⟨_, v, rfl, Gu (h1.keep aG).rd e1, q H v (same_refl H) r⟩
    | str =>
      rcases r1.get (.inr _) with ⟨_, z⟩ | ⟨v, d', e1, e2, r⟩
      · have e : nY _ _ = some d := e
        rw [z] at e
        cases e
      · have e : nY _ _ = some d := e
        rw [e2] at e
        cases e
        exact .inr ⟨_, v, rfl, Gu (h1.keep aG).rd e1, q H v (same_refl H) r⟩
    | _ => cases e
  | _ => cases e
end
end DL
namespace DL
open PySem PySem.Spec PyProof.Rows L2
section
variable {X : Cx} {K : PySem.W.Frag} {C : Cf} {O : Addr → Prop} {H : Hp} {env : En} {ta tb te : TE}
theorem wR : ∀ ys : List Int, aH K C H (ys.map V.int) (ys.map Dt.int)
  | [] => .nil
  | _ :: r => .cons .int (wR r)
def cutD (xs : List Dt) (lo hi : Option Int) : List Dt := (xs.drop (HT.sIx xs.length 0 lo)).take (HT.sIx xs.length xs.length hi - HT.sIx xs.length 0 lo)
theorem aH.cut {vs : List V} {ds : List Dt} (r : aH K C H vs ds) (lo hi : Option Int) : aH K C H (cutV vs lo hi) (cutD ds lo hi) := by
  unfold cutV cutD
  rw [r.len]
  exact (r.drop _).take _
theorem Mf (xs : List Dt) (lo hi : Option Int) (h1 : HT.sIx xs.length 0 lo = 0) (h2 : HT.sIx xs.length xs.length hi = xs.length) : cutD xs lo hi = xs := by
  unfold cutD
  rw [h1, h2, List.drop_zero, Nat.sub_zero, List.take_length]
def HL : Dt → Option Int → Option Int → Option Dt
  | .lst xs, lo, hi => some (.lst (cutD xs lo hi))
  | .tup xs, lo, hi => some (.tup (cutD xs lo hi))
  | .str s, lo, hi => guard (sz s.length) (.str (cutS s lo hi))
  | .scr ns, lo, hi => some (.lst (cutD (ns.map .int) lo hi))
  | _, _, _ => none
def gQ (K : PySem.W.Frag) : V → Option Int → Option Int → Hp → VK → Prop := fun x lo hi H Q => rSlL K x lo hi H Q ∨ (rSlA K x lo hi H Q ∨ rSlS x lo hi H Q)
theorem SlR.or {r r' : V → Option Int → Option Int → Hp → VK → Prop} (h : SlR X r) (h' : SlR X r') : SlR X (fun x lo hi H Q => r x lo hi H Q ∨ r' x lo hi H Q) := by
  intro pins s σ H x v vl vu lo hi sl Q I rx hs pl pu q
  rcases q with q | q
  · exact h pins s σ H x v vl vu lo hi sl Q I rx hs pl pu q
  · exact h' pins s σ H x v vl vu lo hi sl Q I rx hs pl pu q
theorem jf : SlR X (gQ X.K) := SlR.or sl_list (SlR.or sl_tupA sl_str)
def HM (a : Option Dt) (lo hi : Option (Option Int)) : Option Dt := a.bind fun x => lo.bind fun l => hi.bind fun h => HL x l h
theorem gX : UZ K C tNoPart env (some none) := fun i e B O H σ st Q q => by
  cases e
  exact q H (same_refl H)
def iD : Dt → Option (Option Int)
  | .int i => some (some i)
  | _ => none
theorem dU {a : Option Dt} (ha : eu K C te env a) : UZ K C (tPart te) env (a.bind iD) := fun i e B O H σ st Q q => by
  cases ea : a with
  | none => rw [ea] at e; cases e
  | some x =>
    rw [ea] at e
    cases x with
    | int j =>
      cases e
      refine ha _ ea B O H σ st _ fun H1 v s1 r1 => ?_
      cases r1
      exact ⟨j, rfl, q H1 s1⟩
    | _ => cases e
theorem jA {tl th : TO} {a : Option Dt} {lo hi : Option (Option Int)} (ha : eu K C te env a) (hl : UZ K C tl env lo) (hh : UZ K C th env hi) : eu K C (tSl (gQ K) te tl th) env (HM a lo hi) := fun d e B O H σ st Q q => by
  cases ea : a with
  | none => rw [ea] at e; cases e
  | some x =>
    cases el : lo with
    | none => rw [ea, el] at e; cases e
    | some l =>
      cases eh : hi with
      | none => rw [ea, el, eh] at e; cases e
      | some h =>
        rw [ea, el, eh] at e
        have e : HL x l h = some d := e
        refine ha x ea B O H σ st _ fun H1 v s1 r1 => hl l el B O H1 σ (st.keep s1) _ fun H2 s2 => hh h eh B O H2 σ ((st.keep s1).keep s2) _ fun H3 s3 => ?_
        have s13 : Same H1 H3 := fun _ _ h => s3 _ _ (s2 _ _ h)
        have s03 : Same H H3 := fun _ _ h => s13 _ _ (s1 _ _ h)
        have al : Al O H3 := st.al.keep s03
        have r3 := r1.keep (aQ (O := O) s13)
        cases r3 with
        | lst h1 r =>
          cases e
          exact .inl ⟨_, _, rfl, SqL.of (aG _ _ h1), fun p hp => q _ _ (fun _ _ h => cR hp _ _ (s03 _ _ h)) (qA al hp (r.cut l h))⟩
        | tup h1 r =>
          cases e
          refine .inr (.inl ⟨_, _, rfl, SqT.of (aG _ _ h1), fun hw => ?_, fun hw p hp => q _ _ (fun _ _ h => cR hp _ _ (s03 _ _ h)) (qx al hp (r.cut l h))⟩)
          rw [r.len] at hw
          rw [Mf _ l h hw.1 hw.2] at q
          exact q H3 _ s03 (.tup h1 r)
        | str =>
          obtain ⟨hz, rfl⟩ := bG e
          exact .inr (.inr ⟨_, rfl, lA hz, q H3 _ s03 .str⟩)
        | @scr p ns h1 =>
          cases e
          exact .inl ⟨_, _, rfl, CU aG h1, fun p hp => q _ _ (fun _ _ h => cR hp _ _ (s03 _ _ h)) (qA al hp ((wR ns).cut l h))⟩
        | _ => cases e
def qh : List Dt → Option Dt
  | [.lst xs] => some (.int xs.length)
  | [.tup xs] => some (.int xs.length)
  | [.str s] => guard (sz s.length) (.int s.length)
  | [.dic kds] => some (.int kds.length)
  | _ => none
def mQ (K : PySem.W.Frag) : List V → Hp → VK → Prop := fun xs H Q => (∃ x n, xs = [x] ∧ LenV K x H n ∧ Q (.int n) H) ∨ ∃ a kvs, xs = [V.ref a] ∧ Rd H a (.dK kvs) ∧ Q (.int kvs.length) H
theorem CallR.or {f : Value} {r r' : List V → Hp → VK → Prop} (h : CallR X f r) (h' : CallR X f r') : CallR X f (fun xs H Q => r xs H Q ∨ r' xs H Q) := by
  intro pins s σ H xs us Q I r q
  rcases q with q | q
  · exact h pins s σ H xs us Q I r q
  · exact h' pins s σ H xs us Q I r q
theorem Ek : CallR X (.builtin "len") (fun xs H Q => ∃ a kvs, xs = [V.ref a] ∧ Rd H a (.dK kvs) ∧ Q (.int kvs.length) H) := by
  intro pins s σ H xs us Q I r h
  obtain ⟨a, kvs, rfl, e, q⟩ := h
  obtain ⟨u, rfl, rx⟩ := vals1 r
  obtain rfl : u = Value.ref a := rx
  exact d_len I e fun t s' I' => ⟨.int kvs.length, H, I', ⟨t, rfl⟩, q⟩
theorem fK : CallR X (.builtin "len") (mQ X.K) := CallR.or call_len Ek
theorem lF : Vc K C (mQ K) qh := fun O H xs ds d al ra e Q q => by
  cases ra with
  | nil => cases e
  | cons h r =>
    cases r with
    | cons _ _ => cases h <;> cases e
    | nil =>
      cases h with
      | lst h1 r1 =>
        cases e
        refine .inl ⟨_, _, rfl, .inl ⟨_, SqL.of (aG _ _ h1), rfl⟩, ?_⟩
        rw [r1.len]
        exact q H _ (same_refl H) .int
      | tup h1 r1 =>
        cases e
        refine .inl ⟨_, _, rfl, .inr ⟨_, SqT.of (aG _ _ h1), rfl⟩, ?_⟩
        rw [r1.len]
        exact q H _ (same_refl H) .int
      | str =>
        obtain ⟨hz, rfl⟩ := bG e
        exact .inl ⟨_, _, rfl, ⟨lA hz, rfl⟩, q H _ (same_refl H) .int⟩
      | dic h1 r1 =>
        cases e
        refine .inr ⟨_, _, rfl, (h1.keep aG).rd, ?_⟩
        rw [r1.len]
        exact q H _ (same_refl H) .int
      | _ => cases e
def Vm : List Dt → Option Dt
  | [.int i] => some (.int (if i < 0 then -i else i))
  | _ => none
def U9 : List Dt → Option Dt
  | [.int i, .int j] => some (.int (if j > i then j else i))
  | _ => none
def U8 : List Dt → Option Dt
  | [.int i, .int j] => some (.int (if j < i then j else i))
  | _ => none
def Vh : List Dt → Option Dt
  | [.int i] => some (.int i)
  | [.bl k] => some (.int (if k then 1 else 0))
  | _ => none
def gr : List Dt → Option (List Str)
  | [] => some []
  | .str b :: r => (gr r).map (b :: ·)
  | _ :: _ => none
theorem aH.gr : ∀ {vs : List V} {ds : List Dt}, aH K C H vs ds → ∀ {bs : List Str}, DL.gr ds = some bs → vs = bs.map V.str
  | _, _, .nil, bs, e => by cases e; rfl
  | _, _, .cons (ds := ds) h r, bs, e => by
    cases h with
    | str =>
      cases e' : DL.gr ds with
      | none => rw [DL.gr, e'] at e; cases e
      | some bs' =>
        rw [DL.gr, e'] at e
        cases e
        rw [r.gr e']
        rfl
    | _ => cases e
theorem Dl : ∀ ys : List Str, aH K C H (ys.map V.str) (ys.map Dt.str)
  | [] => .nil
  | _ :: r => .cons .str (Dl r)
def TM : Key → Dt
  | .inl i => .int i
  | .inr s => .str s
def Uv : List Dt → Option (List Dt)
  | [.lst xs] => some xs
  | [.tup xs] => some xs
  | [.dic kds] => some (kds.map fun kd => TM kd.1)
  | _ => none
end
end DL
namespace DL
open PySem PySem.Spec PyProof.Rows L2
section
variable {X : Cx} {K : PySem.W.Frag} {C : Cf} {B O : Addr → Prop} {H : Hp} {σ : L2.St} {env : En} {ta tb te : TE}
theorem aS {H1 H2 H3 : Hp} (a : Same H1 H2) (b : Same H2 H3) : Same H1 H3 := fun _ _ h => b _ _ (a _ _ h)
theorem jh {H1 H2 : Hp} {p : Addr} (s : Same H1 H2) (h : H2 p = none) : H1 p = none := by
  cases e : H1 p with
  | none => rfl
  | some o => rw [s _ _ e] at h; cases h
def RT : L2.St → L2.St → Prop := fun _ _ => True
def Rw (vs : List Nat) : L2.St → L2.St → Prop := fun σ' σ => L2.wipe σ' vs = L2.wipe σ vs
theorem set_set {α : Type} : ∀ (xs : List α) (i j : Nat) (a b : α), i ≠ j → (xs.set i a).set j b = (xs.set j b).set i a
  | [], _, _, _, _, _ => rfl
  | x :: xs, 0, 0, a, b, h => absurd rfl h
  | x :: xs, 0, j + 1, a, b, h => rfl
  | x :: xs, i + 1, 0, a, b, h => rfl
  | x :: xs, i + 1, j + 1, a, b, h => by
    show x :: (xs.set i a).set j b = x :: (xs.set j b).set i a
    rw [set_set xs i j a b fun z => h (by rw [z])]
theorem nj {α : Type} : ∀ (xs : List α) (i : Nat) (a b : α), (xs.set i a).set i b = xs.set i b
  | [], _, _, _ => rfl
  | x :: xs, 0, a, b => rfl
  | x :: xs, i + 1, a, b => by
    show x :: (xs.set i a).set i b = x :: xs.set i b
    rw [nj xs i a b]
theorem CW (σ : L2.St) (i : Nat) (o : Option V) : ∀ vs : List Nat, i ∈ vs → L2.wipe (σ.set i o) vs = L2.wipe σ vs
  | [], h => by cases h
  | v :: vs, h => by
    show (L2.wipe (σ.set i o) vs).set v none = (L2.wipe σ vs).set v none
    by_cases hv : i ∈ vs
    · rw [CW σ i o vs hv]
    · have e : i = v := by
        rcases List.mem_cons.mp h with h | h
        · exact h
        · exact absurd h hv
      subst e
      have key : ∀ ws : List Nat, i ∉ ws → L2.wipe (σ.set i o) ws = (L2.wipe σ ws).set i o := by
        intro ws
        induction ws with
        | nil => intro _; rfl
        | cons w ws ih =>
          intro hw
          show (L2.wipe (σ.set i o) ws).set w none = ((L2.wipe σ ws).set w none).set i o
          rw [ih fun z => hw (List.mem_cons_of_mem _ z), set_set _ i w _ _ fun z => hw (by rw [z]; exact List.mem_cons_self)]
      rw [key vs hv, nj]
def fName (i : Nat) : Dt → En → Option En := fun d e => some (e.set i (.sh d))
theorem ay (i : Nat) : Np K C RT (gName i) (fName i) := fun d env env' e B O H σ v st r Q q => by
  cases e
  exact q _ trivial (st.set r)
theorem fF {vs : List Nat} (i : Nat) (h : i ∈ vs) : Np K C (Rw vs) (gName i) (fName i) := fun d env env' e B O H σ v st r Q q => by
  cases e
  exact q _ (CW σ i _ vs h) (st.set r)
def kM : List Dt → En → Option En
  | [], e => some e
  | _ :: _, _ => none
def bw (f : Dt → En → Option En) (g : List Dt → En → Option En) : List Dt → En → Option En
  | [], _ => none
  | d :: ds, e => (f d e).bind fun e1 => g ds e1
theorem iZ {R : L2.St → L2.St → Prop} (hR : ∀ σ, R σ σ) : Nt K C R gNil kM := fun ds env env' e B O H σ vs st r Q q => by
  cases r with
  | nil => cases e; exact ⟨rfl, q σ (hR σ) st⟩
  | cons _ _ => cases e
theorem bB {R : L2.St → L2.St → Prop} (hT : ∀ a b c, R a b → R b c → R a c) {t : TG} {u : TGs} {f : Dt → En → Option En} {g : List Dt → En → Option En} (ht : Np K C R t f) (hu : Nt K C R u g) : Nt K C R (gCons t u) (bw f g) := fun ds env env' e B O H σ vs st r Q q => by
  cases r with
  | nil => cases e
  | @cons v d vs ds h r =>
    have e : (f d env).bind (fun e1 => g ds e1) = some env' := e
    cases e1 : f d env with
    | none => rw [e1] at e; cases e
    | some en =>
      rw [e1] at e
      exact ⟨v, vs, rfl, ht d env en e1 B O H σ v st h _ fun σ1 r1 st1 => hu ds en env' e B O H σ1 vs st1 r Q fun σ2 r2 st2 => q σ2 (hT _ _ _ r2 r1) st2⟩
def jM (n : Nat) (g : List Dt → En → Option En) : Dt → En → Option En
  | .tup ds, e => if ds.length = n then g ds e else none
  | _, _ => none
theorem kJ {R : L2.St → L2.St → Prop} {n : Nat} {u : TGs} {g : List Dt → En → Option En} (hu : Nt K C R u g) : Np K C R (gTup K n u) (jM n g) := fun d env env' e B O H σ v st r Q q => by
  cases r with
  | @tup p vs ds h1 r1 =>
    have e : (if ds.length = n then g ds env else none) = some env' := e
    by_cases hn : ds.length = n
    · rw [if_pos hn] at e
      exact ⟨p, vs, rfl, SqT.of (aG _ _ h1), by rw [r1.len]; exact hn, hu ds env env' e B O H σ vs st r1 Q q⟩
    · rw [if_neg hn] at e
      cases e
  | _ => cases e
def lD : Dt → Option (List Dt)
  | .lst xs => some xs
  | _ => none
theorem M8 {S : Hp} {p : Addr} {vs : List V} {ds : List Dt} (h : S p = some (.lst vs)) (r : aH K C S vs ds) : Wk K C S (Itl K p) ds := ⟨⟨_, _, by rw [← r.len]; exact walk_list, fun H s => SqL.of (s _ _ h), fun i H v H' d y e => by
  obtain ⟨rfl, e1⟩ := y
  obtain ⟨v', e2, r2⟩ := r.get e
  rw [e1] at e2
  cases e2
  exact ⟨same_refl _, fun O' al s => r2.keep s⟩⟩⟩
theorem Sm {S : Hp} {p : Addr} {vs : List V} {ds : List Dt} (h : S p = some (.tup vs)) (r : aH K C S vs ds) : Wk K C S (Itt K p) ds := ⟨⟨_, _, by rw [← r.len]; exact walk_tup, fun H s => SqT.of (s _ _ h), fun i H v H' d y e => by
  obtain ⟨rfl, e1⟩ := y
  obtain ⟨v', e2, r2⟩ := r.get e
  rw [e1] at e2
  cases e2
  exact ⟨same_refl _, fun O' al s => r2.keep s⟩⟩⟩
def Uj (K : PySem.W.Frag) (tl : TE) : TI := fun σ H R => tl σ H fun x H1 => (∃ a, x = .ref a ∧ (∃ xs, SqL K H1 a xs) ∧ R (Itl K a) H1) ∨ (∃ a, x = .ref a ∧ (∃ xs, SqT K H1 a xs) ∧ R (Itt K a) H1)
theorem M6 {tg : Expr} {pins : List (Addr × Obj)} {s : Shared} {R : It → Hp → Prop} {a : Addr} {xs : List V} (I : Inv X pins σ H s) (hq : SqL X.K H a xs) (q : R (Itl X.K a) H) : wpAny (model X.prog X.w) X.A (pyIter (.ref a)) (PIE X pins σ tg R) X.xe s := by
  obtain ⟨_, _, pl, _⟩ := I.list hq
  exact wpAny_pyIter_list pl.isList (pi_one (tk := s.toks) I _ (turn_list a _) ⟨_, Heap.get?_push_size _ rfl, rfl, rfl⟩ q)
theorem R9 {tg : Expr} {pins : List (Addr × Obj)} {s : Shared} {R : It → Hp → Prop} {a : Addr} {xs : List V} (I : Inv X pins σ H s) (hq : SqT X.K H a xs) (q : R (Itt X.K a) H) : wpAny (model X.prog X.w) X.A (pyIter (.ref a)) (PIE X pins σ tg R) X.xe s := by
  obtain ⟨us, _, pt, _⟩ := I.tuple hq
  exact wpAny_pyIter_tuple (show s.heap.IsTuple a us.toArray from pt) (pi_one (tk := s.toks) I _ (turn_tuple a _) ⟨_, Heap.get?_push_size _ rfl, rfl, rfl⟩ q)
theorem lM {l tg : Expr} {tl : TE} (hl : PE X l tl) : PI X tg l (Uj X.K tl) := ⟨fun pins s σ H R I h => thn (hl.run pins s σ H _ I h) fun v s1 ⟨x, H1, I1, r1, q1⟩ => by
  rcases q1 with ⟨a, ex, ⟨xs, hq⟩, q⟩ | ⟨a, ex, ⟨xs, hq⟩, q⟩
  · subst ex
    cases r1
    exact M6 I1 hq q
  · subst ex
    cases r1
    exact R9 I1 hq q⟩
def sD : Dt → Option (List Dt)
  | .lst xs => some xs
  | .tup xs => some xs
  | _ => none
theorem jv {a : Option Dt} (ha : eu K C te env a) : TZ K C (Uj K te) env (a.bind sD) := fun xs e B O H σ st R q => by
  cases ea : a with
  | none => rw [ea] at e; cases e
  | some x =>
    rw [ea] at e
    refine ha x ea B O H σ st _ fun H1 v s1 r1 => ?_
    cases r1 with
    | lst h1 r =>
      cases e
      exact .inl ⟨_, rfl, ⟨_, SqL.of (aG _ _ h1)⟩, q H1 _ s1 (M8 h1 r)⟩
    | tup h1 r =>
      cases e
      exact .inr ⟨_, rfl, ⟨_, SqT.of (aG _ _ h1)⟩, q H1 _ s1 (Sm h1 r)⟩
    | _ => cases e
def dI (lo : Int) (n : Nat) : List Dt := (List.range n).map fun i : Nat => .int (lo + (i : Nat))
theorem LI {S : Hp} (lo : Int) (n : Nat) : Wk K C S (Itr lo n) (dI lo n) := ⟨⟨_, _, by rw [dI, List.length_map, List.length_range]; exact walk_range, fun _ _ => trivial, fun i H v H' d y e => by
  obtain ⟨rfl, rfl⟩ := y
  unfold dI at e
  rw [List.getElem?_map] at e
  cases e1 : (List.range n)[i]? with
  | none => rw [e1] at e; cases e
  | some j =>
    rw [e1] at e
    obtain ⟨hi, hj⟩ := List.getElem?_eq_some_iff.mp e1
    rw [List.getElem_range] at hj
    subst hj
    cases e
    exact ⟨same_refl _, fun O' al s => .int⟩⟩⟩
def lE : List Dt → Option (List Dt)
  | [.int j] => if -1000000 ≤ j ∧ j ≤ 1000000 then some (dI 0 j.toNat) else none
  | _ => none
theorem jc {ta : TA} {a : Option (List Dt)} (ha : Hg K C ta env a) : TZ K C (iRng1 ta) env (a.bind lE) := fun xs e B O H σ st R q => by
  cases ea : a with
  | none => rw [ea] at e; cases e
  | some ds =>
    rw [ea] at e
    refine ha ds ea B O H σ st _ fun H1 vs s1 r1 => ?_
    cases r1 with
    | nil => cases e
    | cons h r =>
      cases r with
      | cons _ _ => cases h <;> cases e
      | nil =>
        cases h with
        | @int j =>
          have e : (if -1000000 ≤ j ∧ j ≤ 1000000 then some (dI 0 j.toNat) else none) = some xs := e
          by_cases hj : -1000000 ≤ j ∧ j ≤ 1000000
          · rw [if_pos hj] at e
            cases e
            exact ⟨j, rfl, by omega, by omega, q H1 _ s1 (LI 0 _)⟩
          · rw [if_neg hj] at e
            cases e
        | _ => cases e
theorem N4 {S : Hp} {J : It} {n : Nat} {G : Hp → Prop} {f g : Nat → Option V} {xs : List Dt} (w : Walk J n G (YPair f g)) (hn : n = xs.length) (hG : ∀ H, Same S H → G H)
    (hp : ∀ i d, xs[i]? = some d → ∃ a b, d = .tup [a, b] ∧ (∀ x, f i = some x → Rep K C S x a) ∧ ∀ y, g i = some y → Rep K C S y b) : Wk K C S J xs := ⟨⟨G, YPair f g, by rw [← hn]; exact w, hG, fun i H v H' d y e => by
  obtain ⟨T, x, y', rfl, h1, rfl, h3, h4⟩ := y
  obtain ⟨a, b, rfl, ha, hb⟩ := hp i d e
  refine ⟨cR h1, fun O' al s => qx al h1 (.cons ((ha x h3).keep s) (.cons ((hb y' h4).keep s) .nil))⟩⟩⟩
def kg : List Dt → List Dt → List Dt
  | [], _ => []
  | _ :: _, [] => []
  | a :: as, b :: bs => .tup [a, b] :: kg as bs
theorem Dh : ∀ (xs ys : List Dt), (kg xs ys).length = min xs.length ys.length
  | a :: as, b :: bs => by rw [kg, List.length_cons, Dh as bs, List.length_cons, List.length_cons]; omega
  | [], _ => by simp [kg]
  | _ :: _, [] => by simp [kg]
theorem DB : ∀ {xs ys : List Dt} {i : Nat} {d : Dt}, (kg xs ys)[i]? = some d → ∃ a b, xs[i]? = some a ∧ ys[i]? = some b ∧ d = .tup [a, b]
  | a :: as, b :: bs, 0, d, h => by cases h; exact ⟨a, b, rfl, rfl, rfl⟩
  | a :: as, b :: bs, i + 1, d, h => by
    rw [kg, List.getElem?_cons_succ] at h
    obtain ⟨x, y, h1, h2, h3⟩ := DB h
    exact ⟨x, y, by rw [List.getElem?_cons_succ]; exact h1, by rw [List.getElem?_cons_succ]; exact h2, h3⟩
  | [], _, i, d, h => by rw [kg] at h; cases h
  | _ :: _, [], i, d, h => by rw [kg] at h; cases h
end
end DL
namespace DL
open PySem PySem.Spec PyProof.Rows L2
section
variable {X : Cx} {K : PySem.W.Frag} {C : Cf} {B O : Addr → Prop} {H : Hp} {σ : L2.St} {env : En} {ta tb te : TE}
def fD (f : Dt → En → Option En) (ft : En → Option Bool) (fe : En → Option Dt) (e0 : En) : List Dt → Option (List Dt)
  | [] => some []
  | x :: xs => (f x e0).bind fun e1 => (ft e1).bind fun b => if b = true then (fe e1).bind fun y => (fD f ft fe e0 xs).map (y :: ·) else fD f ft fe e0 xs
def iU (O : Addr → Prop) (p : Addr) : Addr → Prop := fun a => O a ∨ a = p
theorem cG.own (st : cG K C B O H σ env) {p : Addr} {o : HO} (h : H p = none) (ht : isTup o = false := by rfl) : cG K C B (iU O p) (upd H p o) σ env where
  len := st.len
  sh := fun i d e => by
    obtain ⟨v, h1, h2⟩ := st.sh i d e
    exact ⟨v, h1, h2.keep (mJ st.al h)⟩
  ow := fun i ds e => by
    obtain ⟨q, vs, h1, h2, h3, h4, h5⟩ := st.ow i ds e
    exact ⟨q, vs, h1, .inl h2, h3, by rw [upd_ne (ne_of_none h4 h)]; exact h4, h5.keep (mJ st.al h)⟩
  nd := st.nd
  al := fun a ha => by
    rcases ha with ha | rfl
    · by_cases e : a = p
      · subst e
        exact ⟨o, upd_same, ht⟩
      · rw [upd_ne e]
        exact st.al a ha
    · exact ⟨o, upd_same, ht⟩
  bo := fun a ha => .inl (st.bo a ha)
  od := by
    obtain ⟨R, r⟩ := st.od
    refine ⟨R, r.mono (fun _ _ e => ⟨e, rfl⟩) (fun i a ha => ⟨.inl (r.le i a ha).1, (r.le i a ha).2⟩) (fun i a o' _ e => ?_) (fun a xs e => ?_) r.ow⟩
    · rw [upd_ne (ne_of_none e h)]; exact e
    · rw [upd_ne (ne_of_none e h)]; exact e
theorem f9 {p : Addr} {o : HO} (h : O p) : mask O (upd H p o) = mask O H := by
  funext a
  by_cases ha : O a
  · rw [lV ha, lV ha]
  · rw [aZ ha, aZ ha, upd_ne fun z => ha (by rw [z]; exact h)]
theorem cG.put (st : cG K C B O H σ env) {p : Addr} {o : HO} (h : O p) (ht : isTup o = false) (hb : B p) : cG K C B O (upd H p o) σ env where
  len := st.len
  sh := fun i d e => by
    obtain ⟨v, h1, h2⟩ := st.sh i d e
    exact ⟨v, h1, by rw [f9 h]; exact h2⟩
  ow := fun i ds e => by
    obtain ⟨q, vs, h1, h2, h3, h4, h5⟩ := st.ow i ds e
    have ne : q ≠ p := fun z => h3 (by rw [z]; exact hb)
    exact ⟨q, vs, h1, h2, h3, by rw [upd_ne ne]; exact h4, by rw [f9 h]; exact h5⟩
  nd := st.nd
  al := fun a ha => by
    by_cases e : a = p
    · subst e
      exact ⟨o, upd_same, ht⟩
    · rw [upd_ne e]
      exact st.al a ha
  bo := st.bo
  od := by
    obtain ⟨R, r⟩ := st.od
    refine ⟨R, r.mono (fun _ _ e => ⟨e, rfl⟩) r.le (fun i a o' ha e => ?_) (fun a xs e => ?_) r.ow⟩
    · rw [upd_ne fun z => (r.le i a ha).2 (by rw [z]; exact hb)]; exact e
    · rw [upd_ne fun z => st.al.tup e (by rw [z]; exact h)]; exact e
def kT (o : Option (List Dt)) (k : List Dt → Option (List Dt)) : Option (List Dt) := o.bind fun xs => if sz xs.length = true then k xs else none
theorem UP {wi : TI} {g : TG} {tt : TT} {vs : List Nat} {f : Dt → En → Option En} {ft : En → Option Bool} {fe : En → Option Dt} {xs ds : List Dt} (st : cG K C B O H σ env) (hi : ∀ R : It → Hp → Prop, (∀ H' J, Same H H' → Wk K C (mask O H') J xs → R J H') → wi σ H R) (hg : Np K C (Rw vs) g f) (ht : ∀ e, zG K C tt e (ft e)) (he : ∀ e, eu K C te e (fe e))
    (hz : sz xs.length = true) (e : fD f ft fe (fZ env vs) xs = some ds) (Q : VK) (q : ∀ H' p vs, Same H H' → H p = none → H' p = some (.lst vs) → aH K C (mask (fun a => O a ∨ a = p) H') vs ds → Q (.ref p) H') : tLc wi g tt te vs σ H Q := by
  refine hi _ fun H1 J s1 wk D nD => ?_
  obtain ⟨G, Y, w, hG, hY⟩ := wk.ex
  have st1 := st.keep s1
  have Wq := jh s1 nD
  refine lc_it w (fun i H2 => Same H1 H2 ∧ ∃ acc ad, H2 D = some (.lst acc) ∧ aH K C (mask (iU O D) H2) acc ad ∧ ad.length ≤ i ∧ (fD f ft fe (fZ env vs) (xs.drop i)).map (ad ++ ·) = some ds) ?_ ?_ ?_ ?_
  · refine ⟨cR nD, [], [], upd_same, .nil, Nat.le_refl _, ?_⟩
    rw [List.drop_zero, e]
    rfl
  · rintro i H2 hi ⟨s2, _⟩
    exact hG H2 (aS aG s2)
  · rintro i x H2 H3 hlt ⟨s2, acc, ad, hD, ra, hl, hc⟩ hy
    have hx : xs[i]? = some xs[i] := List.getElem?_eq_getElem hlt
    obtain ⟨s3, rep⟩ := hY i H2 x H3 _ hy hx
    rw [List.drop_eq_getElem_cons hlt, fD] at hc
    have s13 := aS s2 s3
    have stD : cG K C B (iU O D) H2 σ env := by
      refine (cG.own (o := .lst acc) st1 nD).keep ?_
      intro a o ha
      by_cases ea : a = D
      · subst ea
        rw [upd_same] at ha
        cases ha
        exact hD
      · rw [upd_ne ea] at ha
        exact s2 _ _ ha
    have st3 := (stD.wipe vs).keep s3
    cases h1 : f xs[i] (fZ env vs) with
    | none => rw [h1] at hc; cases hc
    | some e1 =>
      rw [h1] at hc
      have al2 : Al (iU O D) H2 := stD.al
      have sS : Same (mask O H1) (mask (iU O D) H2) := fun a o ha => by
        obtain ⟨n1, n2⟩ := b9 ha
        rw [aZ (fun z => z.elim n1 (ne_of_none n2 nD))]
        exact s2 _ _ n2
      refine hg xs[i] (fZ env vs) e1 h1 B (iU O D) H3 _ x st3 (rep _ al2 sS) _ fun σ4 hw st4 => ⟨?_, ?_⟩
      · show L2.wipe σ4 vs = L2.wipe σ vs
        rw [hw]
        have ww : ∀ (ws : List Nat) (i : Nat), i ∈ ws → (L2.wipe σ ws).set i none = L2.wipe σ ws := by
          intro ws
          induction ws with
          | nil => intro i h; cases h
          | cons w ws ih =>
            intro i h
            show ((L2.wipe σ ws).set w none).set i none = (L2.wipe σ ws).set w none
            by_cases e : i = w
            · subst e
              rw [nj]
            · rw [set_set _ w i _ _ fun z => e z.symm, ih i ((List.mem_cons.mp h).resolve_left e)]
        have : ∀ ws : List Nat, (∀ i ∈ ws, i ∈ vs) → L2.wipe (L2.wipe σ vs) ws = L2.wipe σ vs := by
          intro ws
          induction ws with
          | nil => intro _; rfl
          | cons w ws ih =>
            intro h
            show (L2.wipe (L2.wipe σ vs) ws).set w none = _
            rw [ih fun i hi => h i (List.mem_cons_of_mem _ hi), ww vs w (h w List.mem_cons_self)]
        exact this vs fun i hi => hi
      · simp only [Option.bind_some] at hc
        cases h2 : ft e1 with
        | none => rw [h2] at hc; cases hc
        | some b =>
          rw [h2] at hc
          refine ht e1 b h2 B (iU O D) H3 σ4 st4 _ fun H5 s5 => ?_
          have s15 := aS s13 s5
          cases b with
          | false =>
            simp only [Option.bind_some, Bool.false_eq_true, if_false] at hc ⊢
            exact ⟨s15, acc, ad, aS s3 s5 _ _ hD, ra.keep (aQ (aS s3 s5)), by omega, hc⟩
          | true =>
            simp only [Option.bind_some, if_true] at hc ⊢
            cases h3 : fe e1 with
            | none => rw [h3] at hc; cases hc
            | some y =>
              rw [h3] at hc
              refine he e1 y h3 B (iU O D) H5 σ4 (st4.keep s5) _ fun H6 v s6 r6 => ⟨acc, aS s3 (aS s5 s6) _ _ hD, ?_, ?_, acc ++ [v], ad ++ [y], upd_same, ?_, ?_, ?_⟩
              · have := of_decide_eq_true hz
                rw [ra.len]
                exact Nat.lt_of_lt_of_le (show ad.length < 1000000 by omega) (by decide)
              · intro a o ha
                rw [upd_ne (ne_of_none ha nD)]
                exact aS s15 s6 _ _ ha
              · rw [f9 (.inr rfl)]
                exact (ra.keep (aQ (aS s3 (aS s5 s6)))).snoc r6
              · rw [List.length_append, List.length_singleton]
                omega
              · simp only [Option.bind_some] at hc
                cases h4 : fD f ft fe (fZ env vs) (xs.drop (i + 1)) with
                | none => rw [h4] at hc; cases hc
                | some r =>
                  rw [h4] at hc
                  simp only [Option.map_some, Option.some.injEq] at hc ⊢
                  rw [← hc]
                  simp
  · rintro H2 ⟨s2, acc, ad, hD, ra, hl, hc⟩
    rw [List.drop_length, fD] at hc
    simp only [Option.map_some, List.append_nil, Option.some.injEq] at hc
    subst hc
    exact q H2 D acc (aS s1 s2) Wq hD ra
theorem qZ {wi : TI} {g : TG} {tt : TT} {vs : List Nat} {ol : Option (List Dt)} {f : Dt → En → Option En} {ft : En → Option Bool} {fe : En → Option Dt} (hi : TZ K C wi env ol) (hg : Np K C (Rw vs) g f) (ht : ∀ e, zG K C tt e (ft e)) (he : ∀ e, eu K C te e (fe e)) :
    vn K C (tLc wi g tt te vs) env (kT ol (fD f ft fe (fZ env vs))) := fun ds e B O H σ st Q q => by
  cases eo : ol with
  | none => rw [eo] at e; cases e
  | some xs =>
    rw [eo] at e
    have e : (if sz xs.length = true then fD f ft fe (fZ env vs) xs else none) = some ds := e
    by_cases hz : sz xs.length = true
    · rw [if_pos hz] at e
      exact UP st (fun R h => hi xs eo B O H σ st R h) hg ht he hz e Q q
    · rw [if_neg hz] at e
      cases e
end
end DL
namespace DL
open PySem PySem.Spec PyProof.Rows L2
section
variable {X : Cx} {K : PySem.W.Frag} {C : Cf} {B O : Addr → Prop} {H : Hp} {σ : L2.St} {env : En} {ta tb te : TE}
theorem Post.weak {O1 : Addr → Prop} {H1 : Hp} {D : Ends} {r : Rs} (p : Post K C B O H D r) (g : Pg B O H O1 H1) : Post K C B O1 H1 D r := by
  cases r with
  | nx e => exact fun O' H' σ' g' st => p O' H' σ' (g.trans g') st
  | rt d => exact fun O' H' v g' bo r => p O' H' v (g.trans g') bo r
  | bk e => exact fun O' H' σ' g' st => p O' H' σ' (g.trans g') st
  | ct e => exact fun O' H' σ' g' st => p O' H' σ' (g.trans g') st
theorem cG.pg (st : cG K C B O H σ env) {H' : Hp} (s : Same H H') : Pg B O H O H' := Pg.of st.bo st.al s
def aN (o : Option Rs) (k : En → Option Rs) : Option Rs := o.bind fun r => match r with
  | .nx e => k e
  | .rt d => some (.rt d)
  | .bk e => some (.bk e)
  | .ct e => some (.ct e)
theorem av {t u : L2.TS} {o : Option Rs} {k : En → Option Rs} (ht : lG K C t env o) (hu : ∀ e, lG K C u e (k e)) : lG K C (tSeq t u) env (aN o k) := fun r e B O H σ st D p => by
  cases eo : o with
  | none => rw [eo] at e; cases e
  | some r1 =>
    rw [eo] at e
    refine ht r1 eo B O H σ st _ ?_
    cases r1 with
    | nx e1 => exact fun O' H' σ' g st' => hu e1 r e B O' H' σ' st' D (p.weak g)
    | rt d => cases e; exact p
    | bk e1 => cases e; exact p
    | ct e1 => cases e; exact p
theorem dW : lG K C tNext env (some (.nx env)) := fun r e B O H σ st D p => by
  cases e
  exact p O H σ Pg.refl st
theorem J4 : lG K C tCont env (some (.ct env)) := fun r e B O H σ st D p => by
  cases e
  exact p O H σ Pg.refl st
theorem dO {a : Option Dt} (ha : eu K C te env a) : lG K C (tRet te) env (a.map .rt) := fun r e B O H σ st D p => by
  cases ea : a with
  | none => rw [ea] at e; cases e
  | some x =>
    rw [ea] at e
    cases e
    exact ha x ea B O H σ st _ fun H1 v s1 r1 => p O H1 v (st.pg s1) st.bo r1
def CA (c : Option Bool) (a b : Option Rs) : Option Rs := c.bind fun x => if x = true then a else b
theorem gH {tt : TT} {t u : L2.TS} {c : Option Bool} {a b : Option Rs} (hc : zG K C tt env c) (ha : lG K C t env a) (hb : lG K C u env b) : lG K C (tIfS tt t u) env (CA c a b) := fun r e B O H σ st D p => by
  cases ec : c with
  | none => rw [ec] at e; cases e
  | some x =>
    rw [ec] at e
    refine hc x ec B O H σ st _ fun H1 s1 => ?_
    cases x with
    | true => exact ha r e B O H1 σ (st.keep s1) D (p.weak (st.pg s1))
    | false => exact hb r e B O H1 σ (st.keep s1) D (p.weak (st.pg s1))
def eU (a : Option Dt) (f : Dt → En → Option En) (env : En) : Option Rs := a.bind fun d => (f d env).map .nx
theorem bR {g : TG} {a : Option Dt} {f : Dt → En → Option En} (ha : eu K C te env a) (hg : Np K C RT g f) : lG K C (tAsg te g) env (eU a f env) := fun r e B O H σ st D p => by
  cases ea : a with
  | none => rw [ea] at e; cases e
  | some x =>
    rw [ea] at e
    have e : (f x env).map Rs.nx = some r := e
    cases ef : f x env with
    | none => rw [ef] at e; cases e
    | some e1 =>
      rw [ef] at e
      cases e
      exact ha x ea B O H σ st _ fun H1 v s1 r1 => hg x env e1 ef B O H1 σ v (st.keep s1) r1 _ fun σ' _ st' => p O H1 σ' (st.pg s1) st'
theorem lY {a : Option Dt} (ha : eu K C te env a) : lG K C (tDrop te) env (a.map fun _ => .nx env) := fun r e B O H σ st D p => by
  cases ea : a with
  | none => rw [ea] at e; cases e
  | some x =>
    rw [ea] at e
    cases e
    exact ha x ea B O H σ st _ fun H1 v s1 r1 => p O H1 σ (st.pg s1) (st.keep s1)
def Qw (i j : Nat) (a : Option (List Dt)) (env : En) : Option Rs := a.bind fun ds => match ds with
  | [x, y] => some (.nx ((env.set i (.sh x)).set j (.sh y)))
  | _ => none
theorem NU {i j : Nat} {ta : TA} {a : Option (List Dt)} (ha : Hg K C ta env a) : lG K C (tPar i j ta) env (Qw i j a env) := fun r e B O H σ st D p => by
  cases ea : a with
  | none => rw [ea] at e; cases e
  | some ds =>
    rw [ea] at e
    refine ha ds ea B O H σ st _ fun H1 vs s1 r1 => ?_
    cases r1 with
    | nil => cases e
    | cons h1 r1 =>
      cases r1 with
      | nil => cases e
      | cons h2 r1 =>
        cases r1 with
        | cons _ _ => cases e
        | nil =>
          cases e
          exact ⟨_, _, rfl, p O H1 _ (st.pg s1) (((st.keep s1).set h1).set h2)⟩
def bz (f : Dt → En → Option En) (fb : En → Option Rs) : List Dt → En → Option Rs
  | [], e => some (.nx e)
  | x :: xs, e => (f x e).bind fun e1 => (fb e1).bind fun r => match r with
    | .nx e2 => bz f fb xs e2
    | .ct e2 => bz f fb xs e2
    | .bk e2 => some (.nx e2)
    | .rt d => some (.rt d)
theorem Sh {wi : TI} {g : TG} {tb : L2.TS} {f : Dt → En → Option En} {fb : En → Option Rs} {xs : List Dt} {r : Rs} (st : cG K C B O H σ env) (hi : ∀ R : It → Hp → Prop, (∀ H' J, Same H H' → Wk K C (mask O H') J xs → R J H') → wi σ H R) (hg : Np K C RT g f) (hb : ∀ e, lG K C tb e (fb e)) (e : bz f fb xs env = some r) (D : Ends) (p : Post K C B O H D r) : tFor wi g tb D σ H := by
  refine hi _ fun H1 J s1 wk => ?_
  obtain ⟨G, Y, w, hG, hY⟩ := wk.ex
  refine for_it w (fun i σ2 H2 => ∃ e2 O2, Pg B O H1 O2 H2 ∧ cG K C B O2 H2 σ2 e2 ∧ bz f fb (xs.drop i) e2 = some r) ⟨env, O, Pg.refl, st.keep s1, e⟩ ?_ ?_ ?_
  · rintro i σ2 H2 _ ⟨e2, O2, g2, _, _⟩
    exact hG H2 (aS g2.1 aG)
  · rintro i x σ2 H2 H3 hlt ⟨e2, O2, g2, st2, hc⟩ hy
    have hx : xs[i]? = some xs[i] := List.getElem?_eq_getElem hlt
    obtain ⟨s3, rep⟩ := hY i H2 x H3 _ hy hx
    rw [List.drop_eq_getElem_cons hlt, bz] at hc
    cases h1 : f xs[i] e2 with
    | none => rw [h1] at hc; cases hc
    | some e3 =>
      rw [h1] at hc
      simp only [Option.bind_some] at hc
      refine hg xs[i] e2 e3 h1 B O2 H3 σ2 x (st2.keep s3) (rep O2 st2.al g2.1) _ fun σ3 _ st3 => ?_
      have g3 : Pg B O H1 O2 H3 := g2.trans (st2.pg s3)
      cases h2 : fb e3 with
      | none => rw [h2] at hc; cases hc
      | some r2 =>
        rw [h2] at hc
        refine hb e3 r2 h2 B O2 H3 σ3 st3 _ ?_
        cases r2 with
        | nx e4 => exact fun O' H' σ' g' st' => ⟨e4, O', g3.trans g', st', hc⟩
        | ct e4 => exact fun O' H' σ' g' st' => ⟨e4, O', g3.trans g', st', hc⟩
        | bk e4 =>
          cases hc
          exact fun O' H' σ' g' st' => p O' H' σ' ((st.pg s1).trans (g3.trans g')) st'
        | rt d =>
          cases hc
          exact fun O' H' v g' bo rr => p O' H' v ((st.pg s1).trans (g3.trans g')) bo rr
  · rintro σ2 H2 ⟨e2, O2, g2, st2, hc⟩
    rw [List.drop_length, bz] at hc
    cases hc
    exact p O2 H2 σ2 ((st.pg s1).trans g2) st2
theorem fW {wi : TI} {g : TG} {tb : L2.TS} {ol : Option (List Dt)} {f : Dt → En → Option En} {fb : En → Option Rs} (hi : TZ K C wi env ol) (hg : Np K C RT g f) (hb : ∀ e, lG K C tb e (fb e)) : lG K C (tFor wi g tb) env (ol.bind fun xs => bz f fb xs env) := fun r e B O H σ st D p => by
  cases eo : ol with
  | none => rw [eo] at e; cases e
  | some xs =>
    rw [eo] at e
    exact Sh st (fun R h => hi xs eo B O H σ st R h) hg hb e D p
theorem cG.setOw (st : cG K C B O H σ env) {i : Nat} {p : Addr} {vs : List V} {ds : List Dt} {H' : Hp} (s : Same H H') (np : H p = none) (hp : H' p = some (.lst vs)) (r : aH K C (mask (iU O p) H') vs ds) : cG K C B (iU O p) H' (σ.set i (some (.ref p))) (env.set i (.ow ds)) where
  len := by rw [List.length_set, List.length_set]; exact st.len
  sh := fun j d' e => by
    rcases getset e with ⟨rfl, e'⟩ | ⟨ne, e'⟩
    · cases e'
    · obtain ⟨v', h1, h2⟩ := st.sh j d' e'
      refine ⟨v', by rw [List.getElem?_set_ne ne.symm]; exact h1, h2.keep fun a o ha => ?_⟩
      obtain ⟨n1, n2⟩ := b9 ha
      rw [aZ (fun z => z.elim n1 (ne_of_none n2 np))]
      exact s _ _ n2
  ow := fun j es e => by
    rcases getset e with ⟨rfl, e'⟩ | ⟨ne, e'⟩
    · cases e'
      have hl : j < σ.length := by
        rw [st.len]
        have := (List.getElem?_eq_some_iff.mp e).1
        rw [List.length_set] at this
        exact this
      exact ⟨p, vs, List.getElem?_set_self hl, .inr rfl, fun z => st.al.new np (st.bo p z), hp, r⟩
    · obtain ⟨p', vs', h1, h2, h3, h4, h5⟩ := st.ow j es e'
      refine ⟨p', vs', by rw [List.getElem?_set_ne ne.symm]; exact h1, .inl h2, h3, s _ _ h4, h5.keep fun a o ha => ?_⟩
      obtain ⟨n1, n2⟩ := b9 ha
      rw [aZ (fun z => z.elim n1 (ne_of_none n2 np))]
      exact s _ _ n2
  nd := fun j k es fs q e1 e2 e3 e4 => by
    have hne : ∀ {l : Nat} {gs : List Dt}, env[l]? = some (.ow gs) → σ[l]? ≠ some (some (V.ref p)) := fun {l gs} h z => by
      obtain ⟨p', vs', h1, h2, h3, h4, h5⟩ := st.ow l gs h
      rw [z] at h1
      cases h1
      rw [np] at h4
      cases h4
    rcases getset e1 with ⟨rfl, e'⟩ | ⟨n1, e'⟩
    · rcases getset e2 with ⟨rfl, e''⟩ | ⟨n2, e''⟩
      · rfl
      · exfalso
        rw [List.getElem?_set_ne n2.symm] at e4
        rcases getset e3 with ⟨_, z⟩ | ⟨z, _⟩
        · cases z
          exact hne e'' e4
        · exact z rfl
    · rcases getset e2 with ⟨rfl, e''⟩ | ⟨n2, e''⟩
      · exfalso
        rw [List.getElem?_set_ne n1.symm] at e3
        rcases getset e4 with ⟨_, z⟩ | ⟨z, _⟩
        · cases z
          exact hne e' e3
        · exact z rfl
      · rw [List.getElem?_set_ne n1.symm] at e3
        rw [List.getElem?_set_ne n2.symm] at e4
        exact st.nd j k es fs q e' e'' e3 e4
  al := fun a ha => by
    rcases ha with ha | rfl
    · exact st.al.keep s a ha
    · exact ⟨_, hp, rfl⟩
  bo := fun a ha => .inl (st.bo a ha)
  od := by
    obtain ⟨R, r⟩ := st.od
    refine ⟨R, r.mono (fun j d e => ?_) (fun i a ha => ⟨.inl (r.le i a ha).1, (r.le i a ha).2⟩) (fun _ _ _ _ e => s _ _ e) (fun _ _ e => s _ _ e) fun k j es q e1 e2 => ?_⟩
    · rcases getset e with ⟨rfl, e'⟩ | ⟨ne, e'⟩
      · cases e'
      · exact ⟨e', List.getElem?_set_ne ne.symm⟩
    · rcases getset e1 with ⟨rfl, e'⟩ | ⟨ne, e'⟩
      · rcases getset e2 with ⟨_, z⟩ | ⟨z, _⟩
        · cases z
          exact fun z => st.al.new np (r.le k _ z).1
        · exact absurd rfl z
      · rw [List.getElem?_set_ne ne.symm] at e2
        exact r.ow k j es q e' e2
theorem O3 (st : cG K C B O H σ env) {p : Addr} {H' : Hp} (s : Same H H') (np : H p = none) : Pg B O H (iU O p) H' := ⟨fun a o ha => by
  obtain ⟨n1, n2⟩ := b9 ha
  rw [aZ (fun z => z.elim n1 (ne_of_none n2 np))]
  exact s _ _ n2, (st.pg s).2⟩
theorem ir {i : Nat} {a : Option (List Dt)} (ha : vn K C te env a) : lG K C (tAsg te (gName i)) env (a.map fun ds => .nx (env.set i (.ow ds))) := fun r e B O H σ st D p => by
  cases ea : a with
  | none => rw [ea] at e; cases e
  | some ds =>
    rw [ea] at e
    cases e
    exact ha ds ea B O H σ st _ fun H1 q vs s1 nq hq r1 => p (iU O q) H1 _ (O3 st s1 nq) (st.setOw s1 nq hq r1)
theorem cG.upOw (st : cG K C B O H σ env) {i : Nat} {p : Addr} {ds es : List Dt} {us : List V} (e : env[i]? = some (.ow ds)) (hp : σ[i]? = some (some (.ref p))) (r : aH K C (mask O H) us es) : cG K C B O (upd H p (.lst us)) σ (env.set i (.ow es)) := by
  obtain ⟨p', vs, h1, h2, h3, h4, h5⟩ := st.ow i ds e
  rw [hp] at h1
  cases h1
  exact {
    len := by rw [List.length_set]; exact st.len
    sh := fun j d' e' => by
      rcases getset e' with ⟨rfl, e9⟩ | ⟨ne, e9⟩
      · cases e9
      · obtain ⟨v', k1, k2⟩ := st.sh j d' e9
        exact ⟨v', k1, by rw [f9 h2]; exact k2⟩
    ow := fun j fs e' => by
      rcases getset e' with ⟨rfl, e''⟩ | ⟨ne, e'⟩
      · cases e''
        exact ⟨p, us, hp, h2, h3, upd_same, by rw [f9 h2]; exact r⟩
      · obtain ⟨p', vs', k1, k2, k3, k4, k5⟩ := st.ow j fs e'
        have np : p' ≠ p := fun z => ne (st.nd j i fs ds p e' e (by rw [← z]; exact k1) hp)
        exact ⟨p', vs', k1, k2, k3, by rw [upd_ne np]; exact k4, by rw [f9 h2]; exact k5⟩
    nd := fun j k fs gs q e1 e2 e3 e4 => by
      have get : ∀ {l : Nat} {hs : List Dt}, (env.set i (Sl.ow es))[l]? = some (.ow hs) → ∃ hs', env[l]? = some (.ow hs') := fun {l hs} h => by
        rcases getset h with ⟨rfl, _⟩ | ⟨_, h⟩
        · exact ⟨_, e⟩
        · exact ⟨_, h⟩
      obtain ⟨x, hx⟩ := get e1
      obtain ⟨y, hy⟩ := get e2
      exact st.nd j k x y q hx hy e3 e4
    al := fun a ha => by
      by_cases ea : a = p
      · subst ea
        exact ⟨_, upd_same, rfl⟩
      · rw [upd_ne ea]
        exact st.al a ha
    bo := st.bo
    od := by
      obtain ⟨R, q⟩ := st.od
      have nR : ∀ k, ¬ R k p := fun k => q.ow k i ds p e hp
      refine ⟨R, q.mono (fun j d e' => ?_) q.le (fun k a o ha e' => ?_) (fun a xs e' => ?_) fun k j fs x e1 e2 => ?_⟩
      · rcases getset e' with ⟨rfl, e9⟩ | ⟨ne, e9⟩
        · cases e9
        · exact ⟨e9, rfl⟩
      · rw [upd_ne fun z => nR k (by rw [← z]; exact ha)]; exact e'
      · rw [upd_ne fun z => st.al.tup e' (by rw [z]; exact h2)]; exact e'
      · rcases getset e1 with ⟨rfl, _⟩ | ⟨_, e9⟩
        · rw [hp] at e2
          cases e2
          exact nR k
        · exact q.ow k j fs x e9 e2 }
theorem L0 (st : cG K C B O H σ env) {i : Nat} {p : Addr} {ds : List Dt} {o : HO} (e : env[i]? = some (.ow ds)) (hp : σ[i]? = some (some (.ref p))) : Pg B O H O (upd H p o) := by
  obtain ⟨p', vs, h1, h2, h3, h4, h5⟩ := st.ow i ds e
  rw [hp] at h1
  cases h1
  exact ⟨by rw [f9 h2]; exact fun _ _ h => h, fun a ha => upd_ne fun z => h3 (by rw [← z]; exact ha)⟩
def xw (env : En) (i : Nat) : Option (List Dt) := match env[i]? with
  | some (.ow ds) => some ds
  | _ => none
theorem lU {i : Nat} {ds : List Dt} (h : xw env i = some ds) : env[i]? = some (.ow ds) := by
  unfold xw at h
  split at h
  · next ds' e => cases h; exact e
  · cases h
def jO (env : En) (i : Nat) (a : Option Dt) : Option Rs := (xw env i).bind fun ds => a.bind fun d => if sz (ds.length + 1) = true then some (.nx (env.set i (.ow (ds ++ [d])))) else none
theorem cL {i : Nat} {a : Option Dt} (ha : eu K C te env a) : lG K C (tDrop (tBM K "list" rAppend (tVar i) (tCons te tNil))) env (jO env i a) := fun r e B O H σ st D p => by
  cases eo : xw env i with
  | none => unfold jO at e; rw [eo] at e; cases e
  | some ds =>
    cases ea : a with
    | none => unfold jO at e; rw [eo, ea] at e; cases e
    | some d =>
      unfold jO at e
      rw [eo, ea] at e
      have e : (if sz (ds.length + 1) = true then some (Rs.nx (env.set i (.ow (ds ++ [d])))) else none) = some r := e
      by_cases hz : sz (ds.length + 1) = true
      · rw [if_pos hz] at e
        cases e
        have eo := lU eo
        obtain ⟨q, vs, h1, h2, h3, h4, h5⟩ := st.ow i ds eo
        refine ⟨.ref q, h1, .inl ⟨rfl, _, SqL.of h4⟩, ha d ea B O H σ st _ fun H1 v s1 r1 => ⟨q, vs, v, rfl, rfl, s1 _ _ h4, ?_, ?_⟩⟩
        · have := of_decide_eq_true hz
          rw [h5.len]
          exact Nat.lt_of_lt_of_le (show ds.length < 1000000 by omega) (by decide)
        · have st1 := st.keep s1
          refine p O _ σ ((st.pg s1).trans (L0 st1 eo h1)) (st1.upOw eo h1 ?_)
          exact (h5.keep (aQ s1)).snoc r1
      · rw [if_neg hz] at e
        cases e
def frz (env : En) (i : Nat) : En := match env[i]? with
  | some (.ow ds) => env.set i (.sh (.lst ds))
  | _ => env
theorem cG.frz (st : cG K C B O H σ env) (i : Nat) : ∃ O', Pg B O H O' H ∧ cG K C B O' H σ (DL.frz env i) := by
  unfold DL.frz
  split
  · next ds e =>
    obtain ⟨q, vs, h1, h2, h3, h4, h5⟩ := st.ow i ds e
    have sub : Same (mask O H) (mask (fun a => O a ∧ a ≠ q) H) := iS fun a z => z.1
    refine ⟨fun a => O a ∧ a ≠ q, ⟨sub, fun _ _ => rfl⟩, ?_⟩
    exact {
      len := by rw [List.length_set]; exact st.len
      sh := fun j d e' => by
        rcases getset e' with ⟨rfl, e9⟩ | ⟨ne, e9⟩
        · cases e9
          exact ⟨_, h1, .lst (by rw [aZ (fun z => z.2 rfl)]; exact h4) (h5.keep sub)⟩
        · obtain ⟨v', k1, k2⟩ := st.sh j d e9
          exact ⟨v', k1, k2.keep sub⟩
      ow := fun j fs e' => by
        rcases getset e' with ⟨rfl, e9⟩ | ⟨ne, e9⟩
        · cases e9
        · obtain ⟨p', vs', k1, k2, k3, k4, k5⟩ := st.ow j fs e9
          have np : p' ≠ q := fun z => ne (st.nd j i fs ds q e9 e (by rw [← z]; exact k1) h1)
          exact ⟨p', vs', k1, ⟨k2, np⟩, k3, k4, k5.keep sub⟩
      nd := fun j k fs gs q e1 e2 e3 e4 => by
        rcases getset e1 with ⟨rfl, e'⟩ | ⟨n1, e'⟩
        · cases e'
        · rcases getset e2 with ⟨rfl, e''⟩ | ⟨n2, e''⟩
          · cases e''
          · exact st.nd j k fs gs q e' e'' e3 e4
      al := fun a ha => st.al a ha.1
      bo := fun a ha => ⟨st.bo a ha, fun z => h3 (by rw [← z]; exact ha)⟩
      od := by
        obtain ⟨R, r⟩ := st.od
        refine ⟨R, r.mono (fun j d e' => ?_) (fun k a ha => ⟨⟨(r.le k a ha).1, fun z => r.ow k i ds q e h1 (by rw [← z]; exact ha)⟩, (r.le k a ha).2⟩) (fun _ _ _ _ e => e) (fun _ _ e => e) fun k j fs x e1 e2 => ?_⟩
        · rcases getset e' with ⟨rfl, e9⟩ | ⟨ne, e9⟩
          · cases e9
          · exact ⟨e9, rfl⟩
        · rcases getset e1 with ⟨rfl, e9⟩ | ⟨ne, e9⟩
          · cases e9
          · exact r.ow k j fs x e9 e2 }
  · exact ⟨O, Pg.refl, st⟩
theorem jw (i : Nat) {t : L2.TS} {o : Option Rs} (h : lG K C t (frz env i) o) : lG K C t env o := fun r e B O H σ st D p => by
  obtain ⟨O', g, st'⟩ := st.frz i
  exact h r e B O' H σ st' D (p.weak g)
def gj : Rs → Option Dt
  | .rt d => some d
  | .nx _ => some .non
  | _ => none
def o4 (n : Nat) (ds : List Dt) : En := ds.map .sh ++ List.replicate (n - ds.length) .no
theorem Hl {vs : List V} {ds : List Dt} (n : Nat) (al : Al B H) (r : aH K C (mask B H) vs ds) : cG K C B B H (vs.map some ++ List.replicate (n - vs.length) none) (o4 n ds) where
  len := by
    unfold o4
    rw [List.length_append, List.length_append, List.length_map, List.length_map, List.length_replicate, List.length_replicate, r.len]
  sh := fun i d e => by
    unfold o4 at e
    by_cases h : i < ds.length
    · rw [List.getElem?_append_left (by rw [List.length_map]; exact h), List.getElem?_map] at e
      cases ed : ds[i]? with
      | none => rw [ed] at e; cases e
      | some d' =>
        rw [ed] at e
        cases e
        obtain ⟨v, h1, h2⟩ := r.get ed
        refine ⟨v, ?_, h2⟩
        rw [List.getElem?_append_left (by rw [List.length_map, r.len]; exact h), List.getElem?_map, h1]
        rfl
    · rw [List.getElem?_append_right (by rw [List.length_map]; omega), List.getElem?_replicate] at e
      split at e <;> cases e
  ow := fun i es e => by
    exfalso
    unfold o4 at e
    by_cases h : i < ds.length
    · rw [List.getElem?_append_left (by rw [List.length_map]; exact h), List.getElem?_map] at e
      cases ed : ds[i]? with
      | none => rw [ed] at e; cases e
      | some d' => rw [ed] at e; cases e
    · rw [List.getElem?_append_right (by rw [List.length_map]; omega), List.getElem?_replicate] at e
      split at e <;> cases e
  nd := fun i j es fs p e => by
    exfalso
    unfold o4 at e
    by_cases h : i < ds.length
    · rw [List.getElem?_append_left (by rw [List.length_map]; exact h), List.getElem?_map] at e
      cases ed : ds[i]? with
      | none => rw [ed] at e; cases e
      | some d' => rw [ed] at e; cases e
    · rw [List.getElem?_append_right (by rw [List.length_map]; omega), List.getElem?_replicate] at e
      split at e <;> cases e
  al := al
  bo := fun _ h => h
  od := Ec.non fun i d e => by
    unfold o4 at e
    by_cases h : i < ds.length
    · rw [List.getElem?_append_left (by rw [List.length_map]; exact h), List.getElem?_map] at e
      cases ed : ds[i]? with
      | none => rw [ed] at e; cases e
      | some d' => rw [ed] at e; cases e
    · rw [List.getElem?_append_right (by rw [List.length_map]; omega), List.getElem?_replicate] at e
      split at e <;> cases e
end
end DL
namespace DL
open PySem PySem.Spec PyProof.Rows L2
section
variable {X : Cx} {K : PySem.W.Frag} {C : Cf} {B O : Addr → Prop} {H : Hp} {σ : L2.St} {env : En} {ta tb te : TE}
theorem Jc {N : List Str} {ts : L2.TS} {b : En → Option Rs} (hb : ∀ e, lG K C ts e (b e)) {vs : List V} {Q : VK} {O : Addr → Prop} {ds : List Dt} {d : Dt} (al : Al O H) (r : aH K C (mask O H) vs ds) (e : (b (o4 N.length ds)).bind gj = some d) (q : ∀ H' v, Same H H' → Rep K C (mask O H') v d → Q v H') : ts { nx := fun _ H' => Q .non H', rt := Q } (start N vs) H := by
  cases er : b (o4 N.length ds) with
  | none => rw [er] at e; cases e
  | some rs =>
    rw [er] at e
    have e : gj rs = some d := e
    have fin : ∀ (O' : Addr → Prop) (H' : Hp) (v : V), Pg O O H O' H' → (∀ a, O a → O' a) → Rep K C (mask O' H') v d → Q v H' := fun O' H' v g bo rr => by
      refine q H' v (fun a o ha => ?_) (rr.keep (iS bo))
      by_cases hO : O a
      · rw [g.2 a hO]
        exact ha
      · exact aG _ _ (g.1 a o (by rw [aZ hO]; exact ha))
    refine hb _ rs er O O H _ (Hl N.length al r) _ ?_
    cases rs with
    | rt d' => cases e; exact fin
    | nx e1 => cases e; exact fun O' H' σ' g st => fin O' H' .non g st.bo .non
    | bk _ => cases e
    | ct _ => cases e
theorem gU {N : List Str} {c : Cl} {ts : L2.TS} {n : Nat} {b : En → Option Rs} (hb : ∀ lk e, lG K ⟨c, lk⟩ ts e (b e)) {vs : List V} {Q : VK} {E : XK} (h : vj K c n (fun ds => (b (o4 N.length ds)).bind gj) vs H Q E) : ts { nx := fun _ H' => Q .non H', rt := Q } (start N vs) H := by
  obtain ⟨lk, O, ds, d, al, hn, r, e, q⟩ := h
  exact Jc (hb lk) al r e q
theorem QS {N : List Str} {c : Cl} {ts : L2.TS} {n : Nat} {b : En → Option Rs} (hb : ∀ e, lG K ⟨c, none⟩ ts e (b e)) {vs : List V} {Q : VK} {E : XK} (h : UR K c n (fun ds => (b (o4 N.length ds)).bind gj) vs H Q E) : ts { nx := fun _ H' => Q .non H', rt := Q } (start N vs) H := by
  obtain ⟨O, ds, d, al, hn, r, e, q⟩ := h
  exact Jc hb al r e q
theorem d_len {c : Cl} {n : Nat} {m : List Dt → Option Dt} {vs : List V} {Q : VK} {E : XK} (h : vj K c n m vs H Q E) : vs.length = n := by
  obtain ⟨lk, O, ds, d, al, hn, r, e, q⟩ := h
  rw [r.len, hn]
theorem SM {c : Cl} {n : Nat} {m : List Dt → Option Dt} {vs : List V} {Q : VK} {E : XK} (h : UR K c n m vs H Q E) : vs.length = n := d_len (Su h)
def Wf (a b : Str) : Bool := ltCps a.cps.toList b.cps.toList
def T7 (x : Str) : List Str → List Str
  | [] => [x]
  | y :: r => if Wf y x = true then y :: T7 x r else x :: y :: r
def Oe : List Str → List Str
  | [] => []
  | x :: r => T7 x (Oe r)
def yD : Dt → Option DY.Yd
  | .yard Y => some Y
  | _ => none
end
end DL
namespace DL
open PySem PySem.Spec PyProof.Rows L2
section
variable {X : Cx} {K : PySem.W.Frag} {C : Cf} {B O : Addr → Prop} {H : Hp} {σ : L2.St} {env : En} {ta tb te : TE}
def MW (e : En) (f : En → Option Rs) : Option Rs := f e
def o7 (f g : Dt → Dt → Option Dt) (a b c : Option Dt) : Option Dt := a.bind fun x => b.bind fun y => ((f x y).bind bD).bind fun k => if k = true then c.bind fun z => g y z else some (.bl false)
theorem xh {r r' : R2} {f g : Dt → Dt → Option Dt} {tc : TE} {a b c : Option Dt} (hf : HF K C r f) (hg : HF K C r' g) (ha : eu K C ta env a) (hb : eu K C tb env b) (hc : eu K C tc env c) : eu K C (tChain r r' ta tb tc) env (o7 f g a b c) := fun d e B O H σ st Q q => by
  unfold o7 at e
  cases ea : a with
  | none => rw [ea] at e; cases e
  | some x =>
    cases eb : b with
    | none => rw [ea, eb] at e; cases e
    | some y =>
      rw [ea, eb] at e
      simp only [Option.bind_some] at e
      cases ef : f x y with
      | none => rw [ef] at e; cases e
      | some z =>
        rw [ef] at e
        cases z with
        | bl k =>
          simp only [Option.bind_some, bD] at e
          refine ha x ea B O H σ st _ fun H1 v s1 r1 => hb y eb B O H1 σ (st.keep s1) _ fun H2 u s2 r2 => ?_
          have st2 := (st.keep s1).keep s2
          refine hf O H2 v u x y (.bl k) st2.al (r1.keep (aQ s2)) r2 ef _ fun H3 z s3 r3 => ?_
          cases r3
          refine ⟨k, rfl, ?_⟩
          have s03 : Same H H3 := aS s1 (aS s2 s3)
          cases k with
          | true =>
            rw [if_pos rfl] at e
            rw [if_pos rfl]
            cases ec : c with
            | none => rw [ec] at e; cases e
            | some z =>
              rw [ec] at e
              refine hc z ec B O H3 σ (st2.keep s3) _ fun H4 w s4 r4 => ?_
              exact hg O H4 u w y z d ((st2.keep s3).keep s4).al (r2.keep (aQ (aS s3 s4))) r4 e Q fun H5 v5 s5 r5 => q H5 v5 (aS s03 (aS s4 s5)) r5
          | false =>
            rw [if_neg (by decide)] at e
            rw [if_neg (by decide)]
            cases e
            exact q H3 _ s03 .bl
        | _ => cases e
def Kc : Dt → Option String
  | .non => some "NoneType"
  | .bl _ => some "bool"
  | .int _ => some "int"
  | .str _ => some "str"
  | .lst _ => some "list"
  | .tup _ => some "tuple"
  | .dic _ => some "dict"
  | .yard _ => none
  | .ins _ _ _ _ => none
  | .scr _ => none
  | .ys _ => none
  | .dia _ => none
def ur (ty : String) (d : Dt) : Option Dt := (Kc d).bind fun a => (kitB a ty).map .bl
theorem Rep.ty {v : V} {d : Dt} {a : String} (r : Rep K C H v d) (h : Kc d = some a) : TyX K H v (.type a) := by
  cases r with
  | non => cases h; exact .base .non
  | bl => cases h; exact .base (.bl _)
  | int => cases h; exact .base (.int _)
  | str => cases h; exact .base (.str _)
  | lst h1 r1 => cases h; exact .base (.lst h1)
  | tup h1 r1 =>
    cases h
    exact .base (.tup h1)
  | dic h1 r1 =>
    cases h
    rcases h1 with ⟨_, h1⟩ | ⟨_, o, h1⟩
    · exact .base (.dK h1)
    · exact .fDict h1
  | yard _ _ => cases h
  | ins _ _ _ => cases h
  | scr _ => cases h
  | ys _ _ _ => cases h
  | dia _ _ => cases h
theorem Gw (ty : String) {a : Option Dt} (ha : eu K C te env a) : eu K C (tCB (rIsi K) (tCons te (tCons (tC (.ty ty)) tNil))) env (a.bind (ur ty)) := fun d e B O H σ st Q q => by
  cases ea : a with
  | none => rw [ea] at e; cases e
  | some x =>
    rw [ea] at e
    have e : ur ty x = some d := e
    unfold ur at e
    cases et : Kc x with
    | none => rw [et] at e; cases e
    | some t =>
      rw [et] at e
      simp only [Option.bind_some] at e
      cases ek : kitB t ty with
      | none => rw [ek] at e; cases e
      | some b =>
        rw [ek] at e
        cases e
        refine ha x ea B O H σ st _ fun H1 v s1 r1 => ⟨v, .ty ty, .type t, .type ty, b, rfl, .ty ty, r1.up.ty et, kit_ty ek, q H1 _ s1 .bl⟩
end
end DL
namespace DL
open PySem PySem.Spec PyProof.Rows L2
section
variable {prog : Program} {w : World} {A : Around} {E : Value → Shared → Prop} {s : Shared}
def Rh (h : Heap) (v : Value) (ks : List Key) : Prop := ∃ a o us n, v = .ref a ∧ h.get? a = some o ∧ o.cls = .type "tuple" ∧ o.data = .seq us n ∧ Vals (ks.map kV) us.toList
theorem Rh.keeps {h h' : Heap} {v : Value} {ks : List Key} (t : Rh h v ks) (k : ∀ b o, h.get? b = some o → o.cls = .type "tuple" → h'.get? b = some o) : Rh h' v ks := by
  obtain ⟨a, o, us, n, e, ho, hc, hd, hv⟩ := t
  exact ⟨a, o, us, n, e, k a o ho hc, hc, hd, hv⟩
end
def T8 (ks : List Key) : Dt := .tup (ks.map TM)
section
variable {K : PySem.W.Frag} {C : Cf} {O : Addr → Prop} {H : Hp}
theorem kj : ∀ {ps : List (V × List Key)}, (∀ p ∈ ps, Rep K C H p.1 (T8 p.2)) → aH K C H (ps.map (·.1)) ((ps.map (·.2)).map T8)
  | [], _ => .nil
  | p :: r, h => .cons (h p List.mem_cons_self) (kj fun q hq => h q (List.mem_cons_of_mem _ hq))
end
end DL
namespace DL
open PySem PySem.Spec PyProof.Rows L2
end DL
namespace DL
open PySem PySem.Spec PyProof.Rows L2
section
variable {X : Cx} {K : PySem.W.Frag} {C : Cf} {B O : Addr → Prop} {H : Hp} {σ : L2.St} {env : En} {ta tb te : TE}
def rJoin (K : PySem.W.Frag) : V → List V → Hp → VK → Prop := fun x xs H Q => ∃ (a : Str) (p : Addr) (ys : List Str), x = .str a ∧ xs = [.ref p] ∧ (SqL K H p (ys.map V.str) ∨ SqT K H p (ys.map V.str)) ∧ (ys.map (·.length)).sum + ys.length * a.length ≤ 16777216 ∧ Q (.str (Txt.join a ys)) H
def gu (a b : Option Dt) : Option Dt := a.bind fun x => b.bind fun y => match x, y with
  | .str z, .lst ds => (gr ds).bind fun ys => guard (decide ((ys.map (·.length)).sum + ys.length * z.length ≤ 1000000)) (.str (Txt.join z ys))
  | _, _ => none
theorem iT {a b : Option Dt} (ha : eu K C ta env a) (hb : eu K C tb env b) : eu K C (tM1 (rJoin K) ta tb) env (gu a b) := fun d e B O H σ st Q q => by
  unfold gu at e
  cases ea : a with
  | none => rw [ea] at e; cases e
  | some x =>
    cases eb : b with
    | none => rw [ea, eb] at e; cases e
    | some y =>
      rw [ea, eb] at e
      simp only [Option.bind_some] at e
      cases x with
      | str z =>
        cases y with
        | lst ds =>
          simp only at e
          cases es : gr ds with
          | none => rw [es] at e; cases e
          | some ys =>
            rw [es] at e
            obtain ⟨hz, rfl⟩ := bG e
            have hz := of_decide_eq_true hz
            refine ha _ ea B O H σ st _ fun H1 v s1 r1 => ?_
            cases r1
            refine ⟨⟨z, rfl⟩, hb _ eb B O H1 σ (st.keep s1) _ fun H2 u s2 r2 => ?_⟩
            cases r2 with
            | lst h1 r =>
              have ev := r.gr es
              subst ev
              exact ⟨z, _, ys, rfl, rfl, .inl (SqL.of (aG _ _ h1)), by omega, q H2 _ (aS s1 s2) .str⟩
        | _ => cases e
      | _ => cases e
end
end DL
namespace DL
open PySem PySem.Spec PyProof.Rows L2
section
variable {X : Cx} {K : PySem.W.Frag} {C : Cf} {B O : Addr → Prop} {H : Hp} {σ : L2.St} {env : En} {ta tb te : TE}
structure Acc (K : PySem.W.Frag) (C : Cf) (O : Addr → Prop) (D : Addr) (H1 H2 : Hp) (ad : List Dt) : Prop where
  sm : Same H1 H2
  ex : ∃ acc, H2 D = some (.lst acc) ∧ aH K C (mask (iU O D) H2) acc ad
theorem Acc.keep {D : Addr} {H1 H2 H3 : Hp} {ad : List Dt} (a : Acc K C O D H1 H2 ad) (s : Same H2 H3) : Acc K C O D H1 H3 ad := by
  obtain ⟨acc, h1, h2⟩ := a.ex
  exact ⟨aS a.sm s, acc, s _ _ h1, h2.keep (aQ s)⟩
theorem Acc.snoc {D : Addr} {H1 H2 : Hp} {ad : List Dt} (a : Acc K C O D H1 H2 ad) (nD : H1 D = none) {v : V} {y : Dt} (r : Rep K C (mask (iU O D) H2) v y) : ∃ acc, H2 D = some (.lst acc) ∧ acc.length = ad.length ∧ Acc K C O D H1 (upd H2 D (.lst (acc ++ [v]))) (ad ++ [y]) := by
  obtain ⟨acc, h1, h2⟩ := a.ex
  refine ⟨acc, h1, h2.len, fun b o hb => ?_, acc ++ [v], upd_same, ?_⟩
  · rw [upd_ne (ne_of_none hb nD)]
    exact a.sm _ _ hb
  · rw [f9 (.inr rfl)]
    exact h2.snoc r
theorem cG.ownB (st : cG K C B O H σ env) {p : Addr} {o : HO} (h : H p = none) (ht : isTup o = false := by rfl) : cG K C (iU B p) (iU O p) (upd H p o) σ env :=
  { st.own h ht with
    ow := fun i ds e => by
      obtain ⟨q, vs, h1, h2, h3, h4, h5⟩ := (st.own (o := o) h ht).ow i ds e
      refine ⟨q, vs, h1, h2, fun z => z.elim h3 fun y => ?_, h4, h5⟩
      obtain ⟨q', _, k1, _, _, k4, _⟩ := st.ow i ds e
      rw [h1] at k1
      cases k1
      rw [y, h] at k4
      cases k4
    bo := fun a ha => ha.elim (fun z => .inl (st.bo a z)) .inr
    od := by
      obtain ⟨R, r⟩ := (st.own (o := o) h ht).od
      obtain ⟨R0, r0⟩ := st.od
      refine ⟨R0, r0.mono (fun _ _ e => ⟨e, rfl⟩) (fun i a ha => ⟨.inl (r0.le i a ha).1, fun z => z.elim (r0.le i a ha).2 fun y => st.al.new h (by rw [← y]; exact (r0.le i a ha).1)⟩) (fun i a o' _ e => ?_) (fun a xs e => ?_) r0.ow⟩
      · rw [upd_ne (ne_of_none e h)]; exact e
      · rw [upd_ne (ne_of_none e h)]; exact e }
theorem Acc.st {D : Addr} {H1 H2 : Hp} {ad : List Dt} (a : Acc K C O D H1 H2 ad) (st : cG K C B O H1 σ env) (nD : H1 D = none) : cG K C (iU B D) (iU O D) H2 σ env := by
  obtain ⟨acc, h1, h2⟩ := a.ex
  have st0 : cG K C (iU B D) (iU O D) (upd H1 D (.lst acc)) σ env := st.ownB nD
  refine st0.keep fun b o hb => ?_
  by_cases e : b = D
  · subst e
    rw [upd_same] at hb
    cases hb
    exact h1
  · rw [upd_ne e] at hb
    exact a.sm _ _ hb
end
end DL
namespace DL
open PySem PySem.Spec PyProof.Rows L2
section
variable {X : Cx} {K : PySem.W.Frag} {C : Cf} {B O : Addr → Prop} {H : Hp} {σ : L2.St} {env : En} {ta tb te : TE}
def Tw : Dt → Dt → Option Dt
  | .int i, .int j => some (.int (i + j))
  | _, _ => none
def Fz (env : En) (i : Nat) (k a : Option Dt) : Option Rs := (xw env i).bind fun ds => a.bind fun d => k.bind fun x => match x with
  | .int j => (ixN ds.length j).map fun n => .nx (env.set i (.ow (ds.set n d)))
  | _ => none
theorem MT {i : Nat} {ti : TE} {k a : Option Dt} (ha : eu K C te env a) (hk : eu K C ti env k) : lG K C (tAsg te (gSub (tVar i) ti rSetL)) env (Fz env i k a) := fun r e B O H σ st D p => by
  unfold Fz at e
  cases eo : xw env i with
  | none => rw [eo] at e; cases e
  | some ds =>
    cases ea : a with
    | none => rw [eo, ea] at e; cases e
    | some d =>
      cases ek : k with
      | none => rw [eo, ea, ek] at e; cases e
      | some x =>
        rw [eo, ea, ek] at e
        simp only [Option.bind_some] at e
        cases x with
        | int j =>
          simp only at e
          cases ex : ixN ds.length j with
          | none => rw [ex] at e; cases e
          | some n =>
            rw [ex] at e
            cases e
            have eo := lU eo
            obtain ⟨q, vs, h1, h2, h3, h4, h5⟩ := st.ow i ds eo
            refine ha d ea B O H σ st _ fun H1 v s1 r1 => ⟨.ref q, h1, hk _ ek B O H1 σ (st.keep s1) _ fun H2 u s2 r2 => ?_⟩
            cases r2
            have s02 := aS s1 s2
            have st2 := st.keep s02
            refine ⟨q, vs, j, n, rfl, rfl, s02 _ _ h4, by rw [h5.len]; exact ex, ?_⟩
            exact p O _ σ ((st.pg s02).trans (L0 st2 eo h1)) (st2.upOw eo h1 ((h5.keep (aQ s02)).set n (r1.keep (aQ s2))))
        | _ => cases e
def TN : Dt → Option (Key × Dt)
  | .tup [a, b] => (Vw a).map fun k => (k, b)
  | _ => none
def Mr : List Dt → Option (List (Key × Dt))
  | [] => some []
  | d :: r => (TN d).bind fun p => (Mr r).map (p :: ·)
def fDict : List Dt → Option Dt
  | [.lst xs] => (Mr xs).bind fun kds => if (kds.map (·.1)).Nodup then some (.dic kds) else none
  | [.dic kds] => some (.dic kds)
  | _ => none
end
end DL
namespace DL
open PySem PySem.Spec PyProof.Rows L2
section
variable {X : Cx} {K : PySem.W.Frag} {C : Cf} {B O : Addr → Prop} {H : Hp} {σ : L2.St} {env : En} {ta tb te : TE}
def FG : Dt → Dt → Option Dt
  | .int i, .int j => guard (decide (0 ≤ j) && (decide (j ≤ 1000000) && decide (i.natAbs < 2 ^ 64))) (.int (i ^ j.toNat))
  | _, _ => none
theorem EI : HF K C (rI CPow fun i j => .int (i ^ j.toNat)) FG := fun O H x y a b d al ra rb e Q q => by
  cases ra with
  | int =>
    cases rb with
    | int =>
      obtain ⟨hz, rfl⟩ := bG e
      obtain ⟨h1, hz⟩ := Bool.and_eq_true_iff.mp hz
      obtain ⟨h2, h3⟩ := Bool.and_eq_true_iff.mp hz
      exact ⟨_, _, rfl, rfl, ⟨of_decide_eq_true h1, of_decide_eq_true h2, of_decide_eq_true h3⟩, q H _ (same_refl H) .int⟩
    | _ => cases e
  | _ => cases e
def UX (f : Dt → Dt → Option (List Dt)) (a b : Option Dt) : Option (List Dt) := a.bind fun x => b.bind fun y => f x y
def VD (K : PySem.W.Frag) (C : Cf) (r : R2) (f : Dt → Dt → Option (List Dt)) : Prop := ∀ O H x y a b es, Al O H → Rep K C (mask O H) x a → Rep K C (mask O H) y b → f a b = some es → ∀ Q : VK, (∀ p vs, H p = none → aH K C (mask O H) vs es → Q (.ref p) (upd H p (.lst vs))) → r x y H Q
theorem IG {r : R2} {f : Dt → Dt → Option (List Dt)} {a b : Option Dt} (hr : VD K C r f) (ha : eu K C ta env a) (hb : eu K C tb env b) : vn K C (tOp r ta tb) env (UX f a b) := fun d e B O H σ st Q q => by
  cases ea : a with
  | none => rw [ea] at e; cases e
  | some x =>
    cases eb : b with
    | none => rw [ea, eb] at e; cases e
    | some y =>
      rw [ea, eb] at e
      refine ha x ea B O H σ st _ fun H1 v s1 r1 => hb y eb B O H1 σ (st.keep s1) _ fun H2 u s2 r2 => ?_
      have s02 := aS s1 s2
      refine hr O H2 v u x y d (st.al.keep s02) (r1.keep (aQ s2)) r2 e Q fun p vs hp r3 => ?_
      exact q _ p vs (aS s02 (cR hp)) (jh s02 hp) upd_same (r3.keep (mJ (st.al.keep s02) hp))
def G6 : Dt → Dt → Option (List Dt)
  | .lst xs, .lst ys => if sz (xs.length + ys.length) = true then some (xs ++ ys) else none
  | _, _ => none
theorem Jw : VD K C (bO K) G6 := fun O H x y a b es al ra rb e Q q => by
  cases ra with
  | @lst p vs ds h1 r1 =>
    cases rb with
    | @lst p' vs' ds' h2 r2 =>
      have e : (if sz (ds.length + ds'.length) = true then some (ds ++ ds') else none) = some es := e
      by_cases hz : sz (ds.length + ds'.length) = true
      · rw [if_pos hz] at e
        cases e
        exact .inr (.inr (.inl ⟨_, _, _, _, rfl, rfl, aG _ _ h1, aG _ _ h2, by rw [r1.len, r2.len]; exact lA hz, fun p hp => q p _ hp (r1.app r2)⟩))
      · rw [if_neg hz] at e
        cases e
    | _ => cases e
  | _ => cases e
end
end DL
namespace DL
open PySem PySem.Spec PyProof.Rows L2
abbrev bare (w : World) : Obj := { cls := .type "set", dict := none, data := .set #[] 0 (.fresh 0 0 (!w.params.followText "set-order")) }
end DL
namespace DL
open PySem PySem.Spec PyProof.Rows L2
section
variable {X : Cx} {K : PySem.W.Frag} {C : Cf} {env : En} {te : TE}
def insI (x : Int) : List Int → List Int
  | [] => [x]
  | y :: r => if y < x then y :: insI x r else if x = y then y :: r else x :: y :: r
def sortI : List Int → List Int
  | [] => []
  | x :: r => insI x (sortI r)
theorem uD (x : Int) : ∀ (l : List Int) (k : Int), k ∈ insI x l ↔ k = x ∨ k ∈ l
  | [], k => by simp [insI]
  | y :: r, k => by
    unfold insI
    split
    · rw [List.mem_cons, uD x r k, List.mem_cons]
      constructor
      · rintro (h | h | h) <;> simp [h]
      · rintro (h | h | h) <;> simp [h]
    · split
      · next h => subst h; simp
      · simp
theorem GL (x : Int) : ∀ l : List Int, l.Pairwise (· < ·) → (insI x l).Pairwise (· < ·)
  | [], _ => List.pairwise_singleton _ _
  | y :: r, h => by
    obtain ⟨h1, h2⟩ := List.pairwise_cons.mp h
    unfold insI
    split
    · next hl =>
      refine List.pairwise_cons.mpr ⟨fun b hb => ?_, GL x r h2⟩
      rcases (uD x r b).mp hb with rfl | hb
      · exact hl
      · exact h1 b hb
    · split
      · exact h
      · next a b =>
        refine List.pairwise_cons.mpr ⟨fun c hc => ?_, h⟩
        rcases List.mem_cons.mp hc with rfl | hc
        · omega
        · have := h1 c hc
          omega
theorem uZ : ∀ l, (sortI l).Pairwise (· < ·)
  | [] => .nil
  | x :: r => GL x _ (uZ r)
theorem nI : ∀ (l : List Int) (k : Int), k ∈ sortI l ↔ k ∈ l
  | [], k => Iff.rfl
  | x :: r, k => by
    show k ∈ insI x (sortI r) ↔ _
    rw [uD, nI r k, List.mem_cons]
theorem lC : ∀ {l m : List Int}, l.Pairwise (· < ·) → m.Pairwise (· < ·) → (∀ k, k ∈ l ↔ k ∈ m) → l = m
  | [], [], _, _, _ => rfl
  | [], y :: m, _, _, h => absurd ((h y).mpr List.mem_cons_self) (by simp)
  | x :: l, [], _, _, h => absurd ((h x).mp List.mem_cons_self) (by simp)
  | x :: l, y :: m, h1, h2, h => by
    obtain ⟨a1, a2⟩ := List.pairwise_cons.mp h1
    obtain ⟨b1, b2⟩ := List.pairwise_cons.mp h2
    have exy : x = y := by
      rcases List.mem_cons.mp ((h x).mp List.mem_cons_self) with e | e
      · exact e
      · rcases List.mem_cons.mp ((h y).mpr List.mem_cons_self) with e' | e'
        · exact e'.symm
        · have := b1 x e
          have := a1 y e'
          omega
    subst exy
    rw [lC a2 b2 fun k => ?_]
    constructor
    · intro hk
      rcases List.mem_cons.mp ((h k).mp (List.mem_cons_of_mem _ hk)) with e | e
      · have := a1 k hk
        omega
      · exact e
    · intro hk
      rcases List.mem_cons.mp ((h k).mpr (List.mem_cons_of_mem _ hk)) with e | e
      · have := b1 k hk
        omega
      · exact e
end
end DL
namespace DL
open PySem PySem.Spec PyProof.Rows L2
section
variable {X : Cx} {K : PySem.W.Frag} {C : Cf} {B O : Addr → Prop} {H : Hp} {σ : L2.St} {env : En} {ta tb te : TE}
def Tu (d : Dt) : Option Dt := if Gq d = true then some d else none
def Vb (e : En) (f : En → Option Dt) : Option Dt := (f e).bind Tu
def ND (e : En) (f : En → Option Bool) : Option Bool := f e
theorem Kr {S S' : Hp} {v : V} {d : Dt} (r : Rep K C S v d) (h : Gq d = true) : Rep K C S' v d := by
  cases r with
  | non => exact .non
  | bl => exact .bl
  | int => exact .int
  | str => exact .str
  | _ => cases h
theorem GC (i : Nat) {a : Option Dt} (h : eu K C te (frz env i) a) : eu K C te env (a.bind Tu) := fun d e B O H σ st Q q => by
  cases ea : a with
  | none => rw [ea] at e; cases e
  | some y =>
    rw [ea] at e
    have e : (if Gq y = true then some y else none) = some d := e
    by_cases hx : Gq y = true
    · rw [if_pos hx] at e
      cases e
      obtain ⟨O', g, st'⟩ := st.frz i
      exact h _ ea B O' H σ st' Q fun H' v s r => q H' v s (Kr r hx)
    · rw [if_neg hx] at e
      cases e
theorem mV (i : Nat) {tt : TT} {a : Option Bool} (h : zG K C tt (frz env i) a) : zG K C tt env a := fun b e B O H σ st Q q => by
  obtain ⟨O', g, st'⟩ := st.frz i
  exact h b e B O' H σ st' Q q
end
end DL
namespace DL
open PySem PySem.Spec PyProof.Rows L2
end DL
namespace DL
open PySem PySem.Spec PyProof.Rows L2
end DL
namespace DY
open PySem PySem.Spec PyProof.Rows L2
structure MA where
  m : Addr
  t : Addr
  b : Addr
  s : Addr
  c : Addr
def Vp (A : MA) : List (Key × V) := [(Sum.inr "trestles", .ref A.t), (Sum.inr "boards", .ref A.b), (Sum.inr "sacks", .ref A.s), (Sum.inr "cords", .ref A.c)]
abbrev Wo (_ : Str) (x : UW) : List V := VZ x
abbrev Vz (_ : Str) (x : P6) : List V := VT x
abbrev V5 (_ : Str) (x : EM) : List V := VU x
abbrev VN (_ : Str) (x : Tt) : List V := VX x
structure U4 (A : MA) (H : Hp) (Y : Yd) : Prop where
  ob : H A.m = some (.dK (Vp A))
  tr : ∃ kvs, H A.t = some (.dK kvs) ∧ Rows H Wo kvs Y.tr
  bo : ∃ kvs, H A.b = some (.dK kvs) ∧ Rows H Vz kvs Y.bo
  sa : ∃ kvs, H A.s = some (.dK kvs) ∧ Rows H V5 kvs Y.sa
  co : ∃ kvs, H A.c = some (.dK kvs) ∧ Rows H VN kvs Y.co
  le : Y.tr.length ≤ 6 ∧ Y.bo.length ≤ 6 ∧ Y.sa.length ≤ 8 ∧ Y.co.length ≤ 4
theorem U4.keep {A : MA} {H H' : Hp} {Y : Yd} (h : U4 A H Y) (s : Same H H') : U4 A H' Y := by
  obtain ⟨e, ⟨k1, e1, r1⟩, ⟨k2, e2, r2⟩, ⟨k3, e3, r3⟩, ⟨k4, e4, r4⟩, le⟩ := h
  exact ⟨s _ _ e, ⟨k1, s _ _ e1, r1.keep (.of s)⟩, ⟨k2, s _ _ e2, r2.keep (.of s)⟩, ⟨k3, s _ _ e3, r3.keep (.of s)⟩, ⟨k4, s _ _ e4, r4.keep (.of s)⟩, le⟩
theorem V9 : ¬ ((Sum.inr "trestles" : Key) = (Sum.inr "sacks" : Key)) := by decide +kernel
theorem Wb : ¬ ((Sum.inr "boards" : Key) = (Sum.inr "sacks" : Key)) := by decide +kernel
theorem vs (A : MA) : valV (Vp A) (Sum.inr "sacks") = some (.ref A.s) := by
  unfold Vp
  rw [valV_neg V9, valV_neg Wb]
  exact valV_pos rfl
section
variable {P : Program} {w : World} {K : PySem.W.Frag} {mg : Str → Option Value} {base : Heap}
def Nw (H : Hp) (A : MA) : Prop := H A.m = none ∧ H A.t = none ∧ H A.b = none ∧ H A.s = none ∧ H A.c = none
end
def Gd (Y : Yd) : Prop := (Y.tr.map (·.1) ++ Y.bo.map (·.1)).Nodup
end DY
namespace DY
open PySem PySem.Spec PyProof.Rows L2
inductive Run : Yd → List dz → Yd → Prop
  | nil {Y : Yd} : Run Y [] Y
  | cons {Y Y' : Yd} {d : dz} {ds : List dz} (h : fault Y d = none) (r : Run (step Y d) ds Y') : Run Y (d :: ds) Y'
theorem Run.snoc {Y Y' : Yd} {d : dz} {ds : List dz} (r : Run Y ds Y') (h : fault Y' d = none) : Run Y (ds ++ [d]) (step Y' d) := by
  induction r with
  | nil => exact .cons h .nil
  | cons h0 _ ih => exact .cons h0 (ih h)
def sets : dz → Bool
  | .tre .. => true
  | .boa .. => true
  | .sac .. => true
  | .cor .. => true
  | _ => false
def Within (Y : Yd) (lo hi : Int) : Prop := ∀ q ∈ lies Y, lo ≤ q.2.2.1 ∧ q.2.2.1 ≤ q.2.2.2 ∧ q.2.2.2 ≤ hi
theorem Ih {α : Type} {T : List (Str × α)} {n : Str} {x : α} (h : getT T n = some x) : (n, x) ∈ T := by
  unfold getT at h
  cases e : T.find? (fun q => decide (q.1 = n)) with
  | none => rw [e] at h; cases h
  | some y =>
    rw [e] at h
    have h1 := List.find?_some e
    have h2 := List.mem_of_find?_eq_some e
    have e1 : y.1 = n := of_decide_eq_true h1
    have e2 : y.2 = x := Option.some.inj h
    rw [← e1, ← e2]
    exact h2
def Tr (lo hi : Int) : dz → Prop
  | .tre _ _ l r => lo ≤ l ∧ r ≤ hi
  | .boa _ _ l r _ => lo ≤ l ∧ r ≤ hi
  | _ => True
theorem fT {Y : Yd} {n : Str} {c l r : Int} : lO Y n c l r = none ↔ isName n = true ∧ taken Y n = false ∧ f6 c = true ∧ (isPlace l && isPlace r) = true ∧ ¬ r < l ∧ ¬ 6 ≤ Y.tr.length ∧ uw Y n c l r = false := by
  unfold lO
  constructor
  · intro h
    repeat' split at h
    all_goals first | cases h | skip
    simp_all
  · rintro ⟨h1, h2, h3, h4, h5, h6, h7⟩
    rw [if_neg (by simp [h1]), if_neg (by simp [h2]), if_neg (by simp [h3]), if_neg (by rw [h4]; simp), if_neg h5, if_neg h6, if_neg (by simp [h7])]
theorem fB {Y : Yd} {n : Str} {c l r g : Int} : lH Y n c l r g = none ↔ isName n = true ∧ taken Y n = false ∧ f6 c = true ∧ (isPlace l && isPlace r) = true ∧ ¬ r ≤ l ∧ iV g = true ∧ ¬ 6 ≤ Y.bo.length ∧ uw Y n c l r = false := by
  unfold lH
  constructor
  · intro h
    repeat' split at h
    all_goals first | cases h | skip
    simp_all
  · rintro ⟨h1, h2, h3, h4, h5, h6, h7, h8⟩
    rw [if_neg (by simp [h1]), if_neg (by simp [h2]), if_neg (by simp [h3]), if_neg (by rw [h4]; simp), if_neg h5, if_neg (by simp [h6]), if_neg h7, if_neg (by simp [h8])]
theorem fS {Y : Yd} {n b : Str} {p g : Int} : jx Y n b p g = none ↔ isName n = true ∧ taken Y n = false ∧ (∃ x, getT Y.bo b = some x ∧ M9 x.2.1 x.2.2.1 p = true) ∧ iV g = true ∧ ¬ 8 ≤ Y.sa.length := by
  unfold jx Es
  constructor
  · intro h
    split at h
    · cases h
    · split at h
      · cases h
      · cases e : getT Y.bo b with
        | none => rw [e] at h; cases h
        | some x =>
          rw [e] at h
          simp only [Option.map_some] at h
          cases o : M9 x.2.1 x.2.2.1 p with
          | false => rw [o] at h; cases h
          | true =>
            rw [o] at h
            simp only at h
            split at h
            · cases h
            · split at h
              · cases h
              · exact ⟨by simp_all, by simp_all, ⟨x, rfl, o⟩, by simp_all, by assumption⟩
  · rintro ⟨h1, h2, ⟨x, h3, h4⟩, h5, h6⟩
    rw [if_neg (by simp [h1]), if_neg (by simp [h2]), h3]
    simp only [Option.map_some, h4]
    rw [if_neg (by simp [h5]), if_neg h6]
theorem fC {Y : Yd} {n u lo : Str} {p : Int} : kB Y n u lo p = none ↔ isName n = true ∧ taken Y n = false ∧ (∃ y x, Gr Y u = some y ∧ getT Y.bo lo = some x ∧ ¬ y.1 ≤ x.1 ∧ M9 y.2.1 y.2.2 p = true ∧ M9 x.2.1 x.2.2.1 p = true) ∧ ¬ 4 ≤ Y.co.length := by
  unfold kB
  constructor
  · intro h
    split at h
    · cases h
    · split at h
      · cases h
      · cases e : Gr Y u with
        | none => rw [e] at h; cases h
        | some y =>
          rw [e] at h
          simp only at h
          cases e2 : getT Y.bo lo with
          | none => rw [e2] at h; cases h
          | some x =>
            rw [e2] at h
            simp only at h
            split at h
            · cases h
            · split at h
              · cases h
              · split at h
                · cases h
                · split at h
                  · cases h
                  · exact ⟨by simp_all, by simp_all, ⟨y, x, rfl, rfl, by assumption, by simp_all, by simp_all⟩, by assumption⟩
  · rintro ⟨h1, h2, ⟨y, x, h3, h4, h5, h6, h7⟩, h8⟩
    rw [if_neg (by simp [h1]), if_neg (by simp [h2]), h3]
    simp only [h4]
    rw [if_neg h5, if_neg (by simp [h6]), if_neg (by simp [h7]), if_neg h8]
theorem CO {Y : Yd} {lo hi : Int} {d : dz} (wi : Within Y lo hi) (hs : sets d = true) (hd : Tr lo hi d) (hf : fault Y d = none) : Within (step Y d) lo hi := by
  intro q hq
  cases d with
  | tre n c l r =>
    obtain ⟨a1, a2, a3, a4, a5, a6, a7⟩ := fT.mp hf
    unfold lies at hq
    rcases List.mem_append.mp hq with z | z
    · exact wi q (by unfold lies; exact List.mem_append.mpr (.inl z))
    · rw [show (step Y (.tre n c l r)).tr = Y.tr ++ [(n, c, l, r)] from rfl, List.map_append] at z
      rcases List.mem_append.mp z with z | z
      · exact wi q (by unfold lies; exact List.mem_append.mpr (.inr z))
      · rw [List.mem_singleton.mp z]
        exact ⟨hd.1, by show l ≤ r; omega, hd.2⟩
  | boa n c l r g =>
    obtain ⟨a1, a2, a3, a4, a5, a6, a7, a8⟩ := fB.mp hf
    unfold lies at hq
    rcases List.mem_append.mp hq with z | z
    · rw [show (step Y (.boa n c l r g)).bo = Y.bo ++ [(n, c, l, r, g)] from rfl, List.map_append] at z
      rcases List.mem_append.mp z with z | z
      · exact wi q (by unfold lies; exact List.mem_append.mpr (.inl z))
      · rw [List.mem_singleton.mp z]
        exact ⟨hd.1, by show l ≤ r; omega, hd.2⟩
    · exact wi q (by unfold lies; exact List.mem_append.mpr (.inr z))
  | sac n b p g => exact wi q hq
  | cor n u lo' p => exact wi q hq
  | _ => cases hs
end DY
namespace DY
open PySem PySem.Spec PyProof.Rows L2
structure Own (H0 H : Hp) (A : MA) (Y : Yd) : Prop where
  is : U4 A H Y
  sm : Same H0 H
  nw : Nw H0 A
  nd : A.t ≠ A.m ∧ A.b ≠ A.m ∧ A.s ≠ A.m ∧ A.c ≠ A.m ∧ A.b ≠ A.t ∧ A.s ≠ A.t ∧ A.s ≠ A.b ∧ A.c ≠ A.t ∧ A.c ≠ A.b ∧ A.c ≠ A.s
theorem Own.keep {H0 H H1 : Hp} {A : MA} {Y : Yd} (o : Own H0 H A Y) (s : Same H H1) : Own H0 H1 A Y := ⟨o.is.keep s, o.sm.trans s, o.nw, o.nd⟩
theorem Own.updB {H0 H : Hp} {A : MA} {Y : Yd} (o : Own H0 H A Y) {k' : List (Key × V)} {T' : List (Str × P6)} (r : Rows H Vz k' T') (hl : T'.length ≤ 6) : Own H0 (upd H A.b (.dK k')) A { Y with bo := T' } ∧ TS H (upd H A.b (.dK k')) := by
  obtain ⟨is, s, nw, n1, n2, n3, n4, n5, n6, n7, n8, n9, n10⟩ := o
  obtain ⟨om, ⟨kt, et, rt⟩, ⟨kb, eb, rb⟩, ⟨ks, es, rs⟩, ⟨kc, ec, rc⟩, le⟩ := is
  have ts : TS H (upd H A.b (.dK k')) := .upd fun xs z => by rw [eb] at z; cases z
  refine ⟨⟨⟨?_, ?_, ?_, ?_, ?_, ?_⟩, fun p x e => ?_, nw, n1, n2, n3, n4, n5, n6, n7, n8, n9, n10⟩, ts⟩
  · rw [upd_ne n2.symm]; exact om
  · refine ⟨kt, ?_, rt.keep ts⟩; rw [upd_ne n5.symm]; exact et
  · exact ⟨k', upd_same, r.keep ts⟩
  · refine ⟨ks, ?_, rs.keep ts⟩; rw [upd_ne n7]; exact es
  · refine ⟨kc, ?_, rc.keep ts⟩; rw [upd_ne n9]; exact ec
  · exact ⟨le.1, hl, le.2.2.1, le.2.2.2⟩
  · rw [upd_ne (ne_of_none e nw.2.2.1)]; exact s _ _ e
theorem Own.updC {H0 H : Hp} {A : MA} {Y : Yd} (o : Own H0 H A Y) {k' : List (Key × V)} {T' : List (Str × Tt)} (r : Rows H VN k' T') (hl : T'.length ≤ 4) : Own H0 (upd H A.c (.dK k')) A { Y with co := T' } ∧ TS H (upd H A.c (.dK k')) := by
  obtain ⟨is, s, nw, n1, n2, n3, n4, n5, n6, n7, n8, n9, n10⟩ := o
  obtain ⟨om, ⟨kt, et, rt⟩, ⟨kb, eb, rb⟩, ⟨ks, es, rs⟩, ⟨kc, ec, rc⟩, le⟩ := is
  have ts : TS H (upd H A.c (.dK k')) := .upd fun xs z => by rw [ec] at z; cases z
  refine ⟨⟨⟨?_, ?_, ?_, ?_, ?_, ?_⟩, fun p x e => ?_, nw, n1, n2, n3, n4, n5, n6, n7, n8, n9, n10⟩, ts⟩
  · rw [upd_ne n4.symm]; exact om
  · refine ⟨kt, ?_, rt.keep ts⟩; rw [upd_ne n8.symm]; exact et
  · refine ⟨kb, ?_, rb.keep ts⟩; rw [upd_ne n9.symm]; exact eb
  · refine ⟨ks, ?_, rs.keep ts⟩; rw [upd_ne n10.symm]; exact es
  · exact ⟨k', upd_same, r.keep ts⟩
  · exact ⟨le.1, le.2.1, le.2.2.1, hl⟩
  · rw [upd_ne (ne_of_none e nw.2.2.2.2)]; exact s _ _ e
section
variable {P : Program} {w : World} {K : PySem.W.Frag} {mg : Str → Option Value} {base : Heap}
structure Vu (Hf H : Hp) (D : Addr) (src : List (Key × List (Key × V))) (qs : List (Addr × Addr)) : Prop where
  D : H D = some (.lst (qs.map fun q => V.ref q.1))
  p : Paired (fun q s => H q.1 = some (.tup [kV s.1, .ref q.2]) ∧ H q.2 = some (.dK s.2) ∧ Hf q.2 = none) qs src
  nd : (qs.map (·.2)).Nodup
theorem Vu.snoc {Hf H H' : Hp} {D p q : Addr} {src : List (Key × List (Key × V))} {qs : List (Addr × Addr)} {k : Key} {kvs : List (Key × V)} (c : Vu Hf H D src qs) (s : ∀ b o, H b = some o → b ≠ D → H' b = some o) (hD : H' D = some (.lst ((qs ++ [(p, q)]).map fun q => V.ref q.1)))
    (nDt : ∀ xs, H D ≠ some (.tup xs)) (nDd : ∀ xs, H D ≠ some (.dK xs)) (e1 : H' p = some (.tup [kV k, .ref q])) (e2 : H' q = some (.dK kvs)) (e3 : Hf q = none) (e4 : H q = none) : Vu Hf H' D (src ++ [(k, kvs)]) (qs ++ [(p, q)]) := by
  refine ⟨hD, ?_, ?_⟩
  · refine j3 ⟨e1, e2, e3⟩ ?_
    have : ∀ {qs : List (Addr × Addr)} {src : List (Key × List (Key × V))}, Paired (fun q s => H q.1 = some (.tup [kV s.1, .ref q.2]) ∧ H q.2 = some (.dK s.2) ∧ Hf q.2 = none) qs src → Paired (fun q s => H' q.1 = some (.tup [kV s.1, .ref q.2]) ∧ H' q.2 = some (.dK s.2) ∧ Hf q.2 = none) qs src := by
      intro qs src h
      induction h with
      | nil => exact .nil
      | cons h _ ih => exact .cons ⟨s _ _ h.1 (fun z => nDt _ (by rw [← z]; exact h.1)), s _ _ h.2.1 (fun z => nDd _ (by rw [← z]; exact h.2.1)), h.2.2⟩ ih
    exact this c.p
  · rw [List.map_append]
    refine List.nodup_append.mpr ⟨c.nd, by simp, fun a ha b hb => ?_⟩
    rw [List.mem_singleton.mp hb]
    intro z
    have : ∀ {qs : List (Addr × Addr)} {src : List (Key × List (Key × V))}, Paired (fun q s => H q.1 = some (.tup [kV s.1, .ref q.2]) ∧ H q.2 = some (.dK s.2) ∧ Hf q.2 = none) qs src → ∀ a ∈ qs.map (·.2), ∃ kvs, H a = some (.dK kvs) := by
      intro qs src h
      induction h with
      | nil => intro a ha; cases ha
      | cons h _ ih =>
        intro a ha
        rcases List.mem_cons.mp ha with rfl | ha
        · exact ⟨_, h.2.1⟩
        · exact ih a ha
    obtain ⟨kvs, e⟩ := this c.p a ha
    rw [z] at e
    rw [e4] at e
    cases e
end
end DY
namespace DY
open PySem PySem.Spec PyProof.Rows L2 DL
section
variable {K : PySem.W.Frag} {C : Cf} {O : Addr → Prop} {H : Hp} {c : Cl}
def Wm (Y : Yd) : Prop := Y.tr.length ≤ 6 ∧ Y.bo.length ≤ 6 ∧ Y.sa.length ≤ 8 ∧ Y.co.length ≤ 4
end
end DY
namespace DY
open PySem PySem.Spec PyProof.Rows L2
structure WB (Y : Yd) : Prop where
  tr : ∀ q ∈ Y.tr, isPlace q.2.2.1 = true ∧ isPlace q.2.2.2 = true ∧ q.2.2.1 ≤ q.2.2.2
  bo : ∀ q ∈ Y.bo, q.1 ≠ "" ∧ f6 q.2.1 = true ∧ isPlace q.2.2.1 = true ∧ isPlace q.2.2.2.1 = true ∧ q.2.2.1 ≤ q.2.2.2.1
theorem Hr {α : Type} {T : List (Str × α)} {n : Str} (h : dw T n = true) : ∃ x, getT T n = some x := by
  unfold dw at h
  cases e : getT T n with
  | none => rw [e] at h; cases h
  | some y => exact ⟨y, rfl⟩
def Vl : dz → Bool
  | .tre .. => true
  | .boa .. => true
  | .sac .. => true
  | .cor .. => true
  | _ => false
def Vx (Y : Yd) : dz → Nat
  | .tre .. => Y.tr.length
  | .boa .. => Y.bo.length
  | .sac .. => Y.sa.length
  | .cor .. => Y.co.length
  | _ => 0
theorem get_mem {α : Type} {T : List (Str × α)} {n : Str} {x : α} (h : getT T n = some x) : (n, x) ∈ T := by
  unfold getT at h
  cases e : T.find? (fun q => decide (q.1 = n)) with
  | none => rw [e] at h; cases h
  | some q =>
    rw [e] at h
    have h1 := List.mem_of_find?_eq_some e
    have h2 : q.1 = n := by simpa using List.find?_some e
    have h3 : q.2 = x := Option.some.inj h
    rw [← h2, ← h3]
    exact h1
end DY
namespace DY
open PySem PySem.Spec PyProof.Rows L2
def Cb (Y : Yd) : List Str := Y.tr.map (·.1) ++ (Y.bo.map (·.1) ++ (Y.sa.map (·.1) ++ Y.co.map (·.1)))
structure Std (Y : Yd) : Prop where
  gd : Gd Y
  ft : WB Y
  nm : ∀ z ∈ Cb Y, Nm z
  on : ∀ q ∈ Y.sa, dw Y.bo q.2.1 = true
  sn : (Y.sa.map (·.1)).Nodup
theorem Std.sm {Y : Yd} (h : Std Y) : Wj Y := by
  have n := h.nm
  unfold Cb at n
  refine ⟨fun q hq => ?_, fun z hz => (n z (by simp only [List.mem_append]; exact .inr (.inr (.inl hz)))).1, fun z hz => (n z (by simp only [List.mem_append]; exact .inr (.inr (.inr hz)))).1⟩
  unfold lies at hq
  rcases List.mem_append.mp hq with z | z
  · obtain ⟨x, hx, rfl⟩ := List.mem_map.mp z
    exact (n x.1 (by simp only [List.mem_append]; exact .inr (.inl (List.mem_map_of_mem hx)))).1
  · obtain ⟨x, hx, rfl⟩ := List.mem_map.mp z
    exact (n x.1 (by simp only [List.mem_append]; exact .inl (List.mem_map_of_mem hx))).1
theorem Vs {Y : Yd} {n : Str} (h : taken Y n = false) : dw Y.bo n = false ∧ dw Y.tr n = false ∧ dw Y.sa n = false ∧ dw Y.co n = false := by
  unfold taken at h
  simp only [Bool.or_eq_false_iff] at h
  exact h
def cap : dz → Nat
  | .tre .. => 6
  | .boa .. => 6
  | .sac .. => 8
  | _ => 4
theorem newF {Y : Yd} {d : dz} (h : Vl d = true) (hf : fault Y d = none) : isName (dN d) = true ∧ taken Y (dN d) = false ∧ Vx Y d < cap d := by
  cases d with
  | tre n c l r =>
    have hf' : lO Y n c l r = none := hf
    show isName n = true ∧ taken Y n = false ∧ Y.tr.length < 6
    unfold lO at hf'
    cases h1 : isName n with
    | false => simp [h1] at hf'
    | true =>
      cases h2 : taken Y n with
      | true => simp [h1, h2] at hf'
      | false =>
        refine ⟨rfl, rfl, ?_⟩
        by_cases h6 : 6 ≤ Y.tr.length
        · exfalso
          revert hf'
          simp only [h1, h2, h6]
          repeat' split
          all_goals simp_all
        · omega
  | boa n c l r g =>
    have hf' : lH Y n c l r g = none := hf
    show isName n = true ∧ taken Y n = false ∧ Y.bo.length < 6
    unfold lH at hf'
    cases h1 : isName n with
    | false => simp [h1] at hf'
    | true =>
      cases h2 : taken Y n with
      | true => simp [h1, h2] at hf'
      | false =>
        refine ⟨rfl, rfl, ?_⟩
        by_cases h6 : 6 ≤ Y.bo.length
        · exfalso
          revert hf'
          simp only [h1, h2, h6]
          repeat' split
          all_goals simp_all
        · omega
  | sac n b p g =>
    have hf' : jx Y n b p g = none := hf
    show isName n = true ∧ taken Y n = false ∧ Y.sa.length < 8
    unfold jx at hf'
    cases h1 : isName n with
    | false => simp [h1] at hf'
    | true =>
      cases h2 : taken Y n with
      | true => simp [h1, h2] at hf'
      | false =>
        refine ⟨rfl, rfl, ?_⟩
        by_cases h6 : 8 ≤ Y.sa.length
        · exfalso
          revert hf'
          simp only [h1, h2, h6]
          repeat' split
          all_goals simp_all
        · omega
  | cor n u lo p =>
    have hf' : kB Y n u lo p = none := hf
    show isName n = true ∧ taken Y n = false ∧ Y.co.length < 4
    unfold kB at hf'
    cases h1 : isName n with
    | false => simp [h1] at hf'
    | true =>
      cases h2 : taken Y n with
      | true => simp [h1, h2] at hf'
      | false =>
        refine ⟨rfl, rfl, ?_⟩
        by_cases h6 : 4 ≤ Y.co.length
        · exfalso
          revert hf'
          simp only [h1, h2, h6]
          repeat' split
          all_goals simp_all
        · omega
  | _ => cases h
theorem qB {α : Type} {T : List (Str × α)} {n : Str} {x : α} (h : getT T n = some x) : dw T n = true := by unfold dw; rw [h]; rfl
end DY
namespace DY
open PySem PySem.Spec PyProof.Rows L2
theorem EX : ∀ c ∈ aR.cps.toList, c < 16 ^ 8 := by decide +kernel
theorem gY {z : Str} (h : isName z = true) : Nm z := by
  unfold isName at h
  simp only [Bool.and_eq_true, decide_eq_true_eq, List.all_eq_true] at h
  obtain ⟨_, h2, h3⟩ := h
  exact ⟨by omega, fun c hc => EX c (h3 c hc)⟩
theorem E7 {z : Str} (h : isName z = true) : z ≠ "" := by
  intro e
  rw [e] at h
  revert h
  decide +kernel
section
variable {α : Type} {T : List (Str × α)}
theorem gJ {n : Str} : dw T n = true ↔ n ∈ T.map (·.1) := by
  constructor
  · intro h
    obtain ⟨x, hx⟩ := Hr h
    exact List.mem_map_of_mem (f := (·.1)) (get_mem hx)
  · exact J7
theorem Fi {β : Type} {U : List (Str × β)} (h : T.map (·.1) = U.map (·.1)) (n : Str) : dw T n = dw U n := by
  rw [Bool.eq_iff_iff, gJ, gJ, h]
theorem UC {n : Str} (h : dw T n = false) : n ∉ T.map (·.1) := fun z => by rw [gJ.mpr z] at h; cases h
theorem eF {n : Str} : (qk T n).Sublist T := List.filter_sublist
theorem I9 {n m : Str} (h : m ≠ n) : dw (qk T n) m = dw T m := by
  rw [Bool.eq_iff_iff, gJ, gJ]
  unfold qk
  constructor
  · intro z
    obtain ⟨q, hq, e⟩ := List.mem_map.mp z
    exact List.mem_map.mpr ⟨q, (List.mem_filter.mp hq).1, e⟩
  · intro z
    obtain ⟨q, hq, e⟩ := List.mem_map.mp z
    refine List.mem_map.mpr ⟨q, List.mem_filter.mpr ⟨hq, ?_⟩, e⟩
    rw [e]
    exact decide_eq_true h
theorem lP {n : Str} {x : α} {q : Str × α} (h : q ∈ putT T n x) : q ∈ T ∨ q = (n, x) := by
  unfold putT at h
  split at h
  · obtain ⟨p, hp, e⟩ := List.mem_map.mp h
    split at e
    · rename_i e1
      right
      rw [← e, ← e1]
    · left
      rw [← e]
      exact hp
  · rcases List.mem_append.mp h with z | z
    · exact .inl z
    · exact .inr (List.mem_singleton.mp z)
end
theorem Gg {b : Str} {k : Int} {P : Str → Prop} : ∀ {l acc : List (Str × EM)}, (∀ q ∈ l, P q.2.1) → (∀ q ∈ acc, P q.2.1) → ∀ q ∈ l.foldl (oH b k) acc, P q.2.1
  | [], _, _, h => h
  | p :: l, acc, hl, h => by
    rw [List.foldl_cons]
    refine Gg (fun q hq => hl q (List.mem_cons_of_mem _ hq)) fun q hq => ?_
    unfold oH at hq
    split at hq
    · rename_i e
      rcases lP hq with z | z
      · exact h q z
      · rw [z]
        show P b
        rw [← e]
        exact hl p List.mem_cons_self
    · exact h q hq
theorem aq {Y : Yd} {z : Str} : z ∈ Cb Y ↔ (z ∈ Y.tr.map (·.1) ∨ z ∈ Y.bo.map (·.1) ∨ z ∈ Y.sa.map (·.1) ∨ z ∈ Y.co.map (·.1)) := by
  unfold Cb
  simp only [List.mem_append]
theorem fX {α : Type} {T : List (Str × α)} {n : Str} {x : α} : (T ++ [(n, x)]).map (·.1) = T.map (·.1) ++ [n] := by rw [List.map_append]; rfl
theorem IK {Y : Yd} {n : Str} {c l r : Int} (h : Std Y) (hf : lO Y n c l r = none) : Std { Y with tr := Y.tr ++ [(n, c, l, r)] } := by
  obtain ⟨h1, h2, _⟩ := newF (d := .tre n c l r) rfl hf
  have h1 : isName n = true := h1
  obtain ⟨q1, q2, q3, q4⟩ := Vs (show taken Y n = false from h2)
  have pl : (isPlace l && isPlace r) = true ∧ l ≤ r := by
    unfold lO at hf
    repeat' split at hf
    all_goals first | cases hf | skip
    rename_i a1 a2 a3 a4 a5 a6 a7
    exact ⟨by simpa using a4, by omega⟩
  simp only [Bool.and_eq_true] at pl
  refine ⟨?_, ⟨fun q hq => ?_, h.ft.bo⟩, fun z hz => ?_, h.on, h.sn⟩
  · show ((Y.tr ++ [(n, c, l, r)]).map (·.1) ++ Y.bo.map (·.1)).Nodup
    rw [fX, List.append_assoc]
    have g := h.gd
    unfold Gd at g
    rw [List.nodup_append] at g ⊢
    refine ⟨g.1, ?_, fun a ha b hb => ?_⟩
    · rw [List.singleton_append, List.nodup_cons]
      exact ⟨UC q1, g.2.1⟩
    · rw [List.singleton_append, List.mem_cons] at hb
      rcases hb with rfl | hb
      · intro e
        rw [e] at ha
        exact UC q2 ha
      · exact g.2.2 a ha b hb
  · rcases List.mem_append.mp hq with z | z
    · exact h.ft.tr q z
    · rw [List.mem_singleton.mp z]
      exact ⟨pl.1.1, pl.1.2, pl.2⟩
  · rw [aq] at hz
    rcases hz with z | z | z | z
    · have z : _ ∈ (Y.tr ++ [(n, c, l, r)]).map (·.1) := z
      rw [fX] at z
      rcases List.mem_append.mp z with z | z
      · exact h.nm _ (aq.mpr (.inl z))
      · rw [List.mem_singleton.mp z]
        exact gY h1
    · exact h.nm _ (aq.mpr (.inr (.inl z)))
    · exact h.nm _ (aq.mpr (.inr (.inr (.inl z))))
    · exact h.nm _ (aq.mpr (.inr (.inr (.inr z))))
theorem KC {Y : Yd} {n : Str} {c l r g : Int} (h : Std Y) (hf : lH Y n c l r g = none) : Std { Y with bo := Y.bo ++ [(n, c, l, r, g)] } := by
  obtain ⟨h1, h2, _⟩ := newF (d := .boa n c l r g) rfl hf
  have h1 : isName n = true := h1
  obtain ⟨q1, q2, q3, q4⟩ := Vs (show taken Y n = false from h2)
  have pl : f6 c = true ∧ (isPlace l && isPlace r) = true ∧ l ≤ r := by
    unfold lH at hf
    repeat' split at hf
    all_goals first | cases hf | skip
    rename_i a1 a2 a3 a4 a5 a6 a7 a8
    exact ⟨by simpa using a3, by simpa using a4, by omega⟩
  simp only [Bool.and_eq_true] at pl
  refine ⟨?_, ⟨h.ft.tr, fun q hq => ?_⟩, fun z hz => ?_, fun q hq => ?_, h.sn⟩
  · show (Y.tr.map (·.1) ++ (Y.bo ++ [(n, c, l, r, g)]).map (·.1)).Nodup
    rw [fX, ← List.append_assoc]
    have g := h.gd
    unfold Gd at g
    rw [List.nodup_append]
    refine ⟨g, by simp, fun a ha b hb => ?_⟩
    rw [List.mem_singleton.mp hb]
    intro e
    rw [e] at ha
    rcases List.mem_append.mp ha with z | z
    · exact UC q2 z
    · exact UC q1 z
  · rcases List.mem_append.mp hq with z | z
    · exact h.ft.bo q z
    · rw [List.mem_singleton.mp z]
      exact ⟨E7 h1, pl.1, pl.2.1.1, pl.2.1.2, pl.2.2⟩
  · rw [aq] at hz
    rcases hz with z | z | z | z
    · exact h.nm _ (aq.mpr (.inl z))
    · have z : _ ∈ (Y.bo ++ [(n, c, l, r, g)]).map (·.1) := z
      rw [fX] at z
      rcases List.mem_append.mp z with z | z
      · exact h.nm _ (aq.mpr (.inr (.inl z)))
      · rw [List.mem_singleton.mp z]
        exact gY h1
    · exact h.nm _ (aq.mpr (.inr (.inr (.inl z))))
    · exact h.nm _ (aq.mpr (.inr (.inr (.inr z))))
  · show dw (Y.bo ++ [(n, c, l, r, g)]) q.2.1 = true
    rw [gJ, fX]
    exact List.mem_append_left _ (gJ.mp (h.on q hq))
theorem Mz {Y : Yd} {n : Str} (h : Std Y) (hf : zj Y n = none) : Std (Eh Y n) := by
  have ns : Ep Y n = false := by
    unfold zj at hf
    repeat' split at hf
    all_goals first | cases hf | skip
    rename_i a1 a2
    simp only [Bool.not_eq_true, Bool.or_eq_false_iff] at a2
    exact a2.1
  have g := h.gd
  unfold Gd at g
  unfold Eh
  split
  · refine ⟨?_, ⟨fun q hq => h.ft.tr q (eF.subset hq), h.ft.bo⟩, fun z hz => ?_, h.on, h.sn⟩
    · show ((qk Y.tr n).map (·.1) ++ Y.bo.map (·.1)).Nodup
      exact g.sublist ((eF.map _).append (List.Sublist.refl _))
    · rw [aq] at hz
      rcases hz with z | z | z | z
      · exact h.nm _ (aq.mpr (.inl ((eF.map _).subset z)))
      · exact h.nm _ (aq.mpr (.inr (.inl z)))
      · exact h.nm _ (aq.mpr (.inr (.inr (.inl z))))
      · exact h.nm _ (aq.mpr (.inr (.inr (.inr z))))
  · refine ⟨?_, ⟨h.ft.tr, fun q hq => h.ft.bo q (eF.subset hq)⟩, fun z hz => ?_, fun q hq => ?_, h.sn⟩
    · show (Y.tr.map (·.1) ++ (qk Y.bo n).map (·.1)).Nodup
      exact g.sublist ((List.Sublist.refl _).append (eF.map _))
    · rw [aq] at hz
      rcases hz with z | z | z | z
      · exact h.nm _ (aq.mpr (.inl z))
      · exact h.nm _ (aq.mpr (.inr (.inl ((eF.map _).subset z))))
      · exact h.nm _ (aq.mpr (.inr (.inr (.inl z))))
      · exact h.nm _ (aq.mpr (.inr (.inr (.inr z))))
    · show dw (qk Y.bo n) q.2.1 = true
      have hq : q ∈ Y.sa := hq
      rw [I9]
      · exact h.on q hq
      · intro e
        unfold Ep at ns
        rw [List.any_eq_false] at ns
        exact ns q hq (decide_eq_true e)
theorem Ks {Y : Yd} {n : Str} {k : Int} (h : Std Y) (hf : xW Y n k = none) : Std (FP Y n k) := by
  have g := h.gd
  unfold Gd at g
  unfold xW at hf
  unfold FP
  unfold MG at hf
  cases e1 : getT Y.tr n with
  | some x =>
    rw [e1] at hf
    dsimp only at hf ⊢
    have pl : (isPlace (x.2.1 + k) && isPlace (x.2.2 + k)) = true := by
      repeat' split at hf
      all_goals first | cases hf | skip
      rename_i a1 a2 a3
      simpa using a1
    simp only [Bool.and_eq_true] at pl
    obtain ⟨_, _, le⟩ := h.ft.tr _ (get_mem e1)
    have le : x.2.1 ≤ x.2.2 := le
    have nn := jt (x := (x.1, x.2.1 + k, x.2.2 + k)) (qB e1)
    refine ⟨?_, ⟨fun q hq => ?_, h.ft.bo⟩, fun z hz => ?_, h.on, h.sn⟩
    · show ((putT Y.tr n (x.1, x.2.1 + k, x.2.2 + k)).map (·.1) ++ Y.bo.map (·.1)).Nodup
      rw [nn]
      exact g
    · rcases lP hq with z | z
      · exact h.ft.tr q z
      · rw [z]
        exact ⟨pl.1, pl.2, by show x.2.1 + k ≤ x.2.2 + k; omega⟩
    · refine h.nm z ?_
      rw [aq] at hz ⊢
      have hz : z ∈ (putT Y.tr n (x.1, x.2.1 + k, x.2.2 + k)).map (·.1) ∨ z ∈ Y.bo.map (·.1) ∨ z ∈ Y.sa.map (·.1) ∨ z ∈ Y.co.map (·.1) := hz
      rw [nn] at hz
      exact hz
  | none =>
    rw [e1] at hf
    cases e2 : getT Y.bo n with
    | none => rw [e2] at hf; cases hf
    | some x =>
      rw [e2] at hf
      dsimp only [Option.map] at hf ⊢
      have pl : (isPlace (x.2.1 + k) && isPlace (x.2.2.1 + k)) = true := by
        repeat' split at hf
        all_goals first | cases hf | skip
        rename_i a1 a2 a3
        simpa using a1
      simp only [Bool.and_eq_true] at pl
      obtain ⟨f1, f2, _, _, le⟩ := h.ft.bo _ (get_mem e2)
      have le : x.2.1 ≤ x.2.2.1 := le
      have nn := jt (x := (x.1, x.2.1 + k, x.2.2.1 + k, x.2.2.2)) (qB e2)
      refine ⟨?_, ⟨h.ft.tr, fun q hq => ?_⟩, fun z hz => ?_, fun q hq => ?_, ?_⟩
      · show (Y.tr.map (·.1) ++ (putT Y.bo n (x.1, x.2.1 + k, x.2.2.1 + k, x.2.2.2)).map (·.1)).Nodup
        rw [nn]
        exact g
      · rcases lP hq with z | z
        · exact h.ft.bo q z
        · rw [z]
          exact ⟨f1, f2, pl.1, pl.2, by show x.2.1 + k ≤ x.2.2.1 + k; omega⟩
      · refine h.nm z ?_
        rw [aq] at hz ⊢
        have hz : z ∈ Y.tr.map (·.1) ∨ z ∈ (putT Y.bo n (x.1, x.2.1 + k, x.2.2.1 + k, x.2.2.2)).map (·.1) ∨ z ∈ (An Y.sa n k).map (·.1) ∨ z ∈ Y.co.map (·.1) := hz
        rw [nn, lS] at hz
        exact hz
      · show dw (putT Y.bo n (x.1, x.2.1 + k, x.2.2.1 + k, x.2.2.2)) q.2.1 = true
        rw [Fi nn]
        exact Gg (P := fun z => dw Y.bo z = true) h.on h.on q hq
      · show ((An Y.sa n k).map (·.1)).Nodup
        rw [lS]
        exact h.sn
theorem Cy {Y : Yd} {b : Str} {p : Int} {v : Bool} (h : Es Y b p = some v) : dw Y.bo b = true := by
  unfold Es at h
  cases e : getT Y.bo b with
  | none => rw [e] at h; cases h
  | some x => exact qB e
theorem I8 {Y : Yd} {n b : Str} {p g : Int} (h : Std Y) (hf : jx Y n b p g = none) : Std (Fe Y n b p g) := by
  obtain ⟨h1, h2, _⟩ := newF (d := .sac n b p g) rfl hf
  have h1 : isName n = true := h1
  have h2 : taken Y n = false := h2
  obtain ⟨q1, q2, q3, q4⟩ := Vs h2
  have hb : dw Y.bo b = true := by
    unfold jx at hf
    simp only [h1, h2] at hf
    cases e : Es Y b p with
    | none => rw [e] at hf; simp at hf
    | some v => exact Cy e
  unfold Fe
  refine ⟨h.gd, ⟨h.ft.tr, h.ft.bo⟩, fun z hz => ?_, fun q hq => ?_, ?_⟩
  · rw [aq] at hz
    rcases hz with z | z | z | z
    · exact h.nm _ (aq.mpr (.inl z))
    · exact h.nm _ (aq.mpr (.inr (.inl z)))
    · have z : _ ∈ (Y.sa ++ [(n, b, p, g)]).map (·.1) := z
      rw [fX] at z
      rcases List.mem_append.mp z with z | z
      · exact h.nm _ (aq.mpr (.inr (.inr (.inl z))))
      · rw [List.mem_singleton.mp z]
        exact gY h1
    · exact h.nm _ (aq.mpr (.inr (.inr (.inr z))))
  · rcases List.mem_append.mp hq with z | z
    · exact h.on q z
    · rw [List.mem_singleton.mp z]
      exact hb
  · show ((Y.sa ++ [(n, b, p, g)]).map (·.1)).Nodup
    rw [fX, List.nodup_append]
    refine ⟨h.sn, by simp, fun x hx y hy => ?_⟩
    rw [List.mem_singleton.mp hy]
    intro e
    rw [e] at hx
    exact UC q3 hx
theorem Iz {Y : Yd} {n b : Str} {p : Int} (h : Std Y) (hf : zT Y n b p = none) : Std (ES Y n b p) := by
  unfold ES
  cases e : getT Y.sa n with
  | none => exact h
  | some x =>
    have hs := qB e
    have hb : dw Y.bo b = true := by
      unfold zT at hf
      simp only [hs] at hf
      cases e : Es Y b p with
      | none => rw [e] at hf; simp at hf
      | some v => exact Cy e
    have nn := jt (x := (b, p, x.2.2)) hs
    refine ⟨h.gd, ⟨h.ft.tr, h.ft.bo⟩, fun z hz => ?_, fun q hq => ?_, ?_⟩
    · refine h.nm z ?_
      rw [aq] at hz ⊢
      have hz : z ∈ Y.tr.map (·.1) ∨ z ∈ Y.bo.map (·.1) ∨ z ∈ (putT Y.sa n (b, p, x.2.2)).map (·.1) ∨ z ∈ Y.co.map (·.1) := hz
      rw [nn] at hz
      exact hz
    · rcases lP hq with z | z
      · exact h.on q z
      · rw [z]
        exact hb
    · show ((putT Y.sa n (b, p, x.2.2)).map (·.1)).Nodup
      rw [nn]
      exact h.sn
theorem Ll {Y : Yd} {n : Str} (h : Std Y) : Std (Fp Y n) := by
  unfold Fp
  refine ⟨h.gd, ⟨h.ft.tr, h.ft.bo⟩, fun z hz => ?_, fun q hq => h.on q (eF.subset hq), h.sn.sublist (eF.map _)⟩
  rw [aq] at hz
  rcases hz with z | z | z | z
  · exact h.nm _ (aq.mpr (.inl z))
  · exact h.nm _ (aq.mpr (.inr (.inl z)))
  · exact h.nm _ (aq.mpr (.inr (.inr (.inl ((eF.map _).subset z)))))
  · exact h.nm _ (aq.mpr (.inr (.inr (.inr z))))
theorem Lg {Y : Yd} {n : Str} (h : Std Y) : Std (Ff Y n) := by
  unfold Ff
  refine ⟨h.gd, ⟨h.ft.tr, h.ft.bo⟩, fun z hz => ?_, h.on, h.sn⟩
  rw [aq] at hz
  rcases hz with z | z | z | z
  · exact h.nm _ (aq.mpr (.inl z))
  · exact h.nm _ (aq.mpr (.inr (.inl z)))
  · exact h.nm _ (aq.mpr (.inr (.inr (.inl z))))
  · exact h.nm _ (aq.mpr (.inr (.inr (.inr ((eF.map _).subset z)))))
theorem L6 {Y : Yd} {n u lo : Str} {p : Int} (h : Std Y) (hf : kB Y n u lo p = none) : Std (F6 Y n u lo p) := by
  obtain ⟨h1, h2, _⟩ := newF (d := .cor n u lo p) rfl hf
  have h1 : isName n = true := h1
  unfold F6
  refine ⟨h.gd, ⟨h.ft.tr, h.ft.bo⟩, fun z hz => ?_, h.on, h.sn⟩
  rw [aq] at hz
  rcases hz with z | z | z | z
  · exact h.nm _ (aq.mpr (.inl z))
  · exact h.nm _ (aq.mpr (.inr (.inl z)))
  · exact h.nm _ (aq.mpr (.inr (.inr (.inl z))))
  · have z : _ ∈ (Y.co ++ [(n, u, lo, p)]).map (·.1) := z
    rw [fX] at z
    rcases List.mem_append.mp z with z | z
    · exact h.nm _ (aq.mpr (.inr (.inr (.inr z))))
    · rw [List.mem_singleton.mp z]
      exact gY h1
theorem I6 {Y : Yd} {d : dz} (h : Std Y) (hf : fault Y d = none) : Std (step Y d) := by
  cases d with
  | tre => exact IK h hf
  | boa => exact KC h hf
  | awa => exact Mz h hf
  | alo => exact Ks h hf
  | sac => exact I8 h hf
  | mov => exact Iz h hf
  | lif => exact Ll h
  | cor => exact L6 h hf
  | cut => exact Lg h
end DY
namespace DY
open PySem PySem.Spec PyProof.Rows L2
abbrev fY : Stmt := ak 80
abbrev DW : List Str := ["_law_found", "_law_due", "_law_one", "_law_other"]
theorem ff : FnScope DW ["_law_found", "_law_due"] (defScope fY) := ⟨rfl, rfl, rfl, by decide +kernel, rfl, by decide +kernel, by decide +kernel⟩
theorem Cv {K : PySem.W.Frag} {H H' : Hp} {a : Addr} {xs : List V} (e : Same H H') (h : SqT K H a xs) : SqT K H' a xs := by
  rcases h with (h | ⟨o, h⟩) | h
  · exact .inl (.inl (e _ _ h))
  · exact .inl (.inr ⟨o, e _ _ h⟩)
  · exact .inr h
inductive Eqv (H : Hp) : Nat → V → V → Prop
  | non {n : Nat} : Eqv H n .non .non
  | bl {n : Nat} (b : Bool) : Eqv H n (.bl b) (.bl b)
  | int {n : Nat} (i : Int) : Eqv H n (.int i) (.int i)
  | str {n : Nat} (z : Str) : Eqv H n (.str z) (.str z)
  | tup {n : Nat} {a b : Addr} {xs ys : List V} (ha : H a = some (.tup xs)) (hb : H b = some (.tup ys)) (hl : xs.length = ys.length) (hz : xs.length ≤ 1000)
      (he : ∀ (i : Nat) (x y : V), xs[i]? = some x → ys[i]? = some y → Eqv H n x y) : Eqv H (n + 1) (.ref a) (.ref b)
  | lst {n : Nat} {a b : Addr} {xs ys : List V} (ha : H a = some (.lst xs)) (hb : H b = some (.lst ys)) (hl : xs.length = ys.length) (hz : xs.length ≤ 1000)
      (he : ∀ (i : Nat) (x y : V), xs[i]? = some x → ys[i]? = some y → Eqv H n x y) : Eqv H (n + 1) (.ref a) (.ref b)
theorem Eqv.keep {H H' : Hp} (s : Same H H') {n : Nat} {x y : V} (e : Eqv H n x y) : Eqv H' n x y := by
  induction e with
  | non => exact .non
  | bl b => exact .bl b
  | int i => exact .int i
  | str z => exact .str z
  | tup ha hb hl hz _ ih => exact .tup (s _ _ ha) (s _ _ hb) hl hz ih
  | lst ha hb hl hz _ ih => exact .lst (s _ _ ha) (s _ _ hb) hl hz ih
def Kq (n : Nat) : Sp := fun vs H Q _ => ∃ x y : V, vs = [x, y] ∧ Eqv H n x y ∧ ∀ H', Same H H' → Q (.bl true) H'
theorem oB {K : PySem.W.Frag} {a b : Addr} {xs ys : List V} {n : Nat} (hn : n = min xs.length ys.length) : Walk (RZ.ItzT K a b) n (fun H => SqT K H a xs ∧ SqT K H b ys) (YPair (fun i => xs[i]?) (fun i => ys[i]?)) := by
  subst hn
  refine ⟨fun i _ hi q => ?_, fun _ q => ⟨xs, ys, q.1, q.2, by omega⟩, fun i H v H' _ q y => ?_⟩
  · have h1 : i < xs.length := by omega
    have h2 : i < ys.length := by omega
    exact ⟨xs, ys, xs[i], ys[i], q.1, q.2, by simp [h1], by simp [h2]⟩
  · obtain ⟨T, x, z, h1, h2, h3, h4, h5⟩ := y
    exact ⟨T, x, z, h1, h2, h3, h4 xs q.1, h5 ys q.2⟩
theorem all_true (n : Nat) : (List.replicate n true).all id = true := by
  induction n with
  | zero => rfl
  | succ n ih =>
    rw [List.replicate_succ, List.all_cons, ih]
    rfl
theorem IB (n : Nat) : List.replicate n (V.bl true) = (List.replicate n true).map V.bl := by
  rw [List.map_replicate]
section
variable {P : Program} {w : World} {K : PySem.W.Frag} {mg : Str → Option Value} {base : Heap}
structure N2 (mg : Str → Option Value) : Prop where
  w6 : mg "isinstance" = none
  bo : mg "bool" = none
  li : mg "list" = none
  tu : mg "tuple" = none
  le : mg "len" = none
  al : mg "all" = none
  zi : mg "zip" = none
  st : mg "str" = none
  it : mg "int" = none
theorem GO {f : Addr} {fd : FuncData} (F : Fun K "_law_same" "_law_same" fY f fd) (bS : Binds K fd ["_law_found", "_law_due"] []) (gS : mg "_law_same" = some (.ref f)) (T : N2 mg) : ∀ n : Nat, FnOk P w K mg base CX0 (n + 1) f fd ["_law_found", "_law_due"] (Kq n)
  | 0 => by
    refine F.ok ff (fun vs H Q E h => ?_) (fun cdv A outer s H vs Q E hr h => ?_)
    · obtain ⟨x, y, rfl, _⟩ := h
      rfl
    · obtain ⟨x, y, rfl, he, q⟩ := h
      have q0 := q H (Same.refl H)
      refine ⟨_, pss_cons (ps_if (pt_cmpR op_isN (pv 1) pe_non (nomark _)) (pss_one (ps_ret (pe_cmpR op_isN (pv 0) pe_non (nomark _)))) pss_nil)
        (pss_cons (ps_if (pt_val (pe_callB call_isi (by rfl) T.w6 (by decide +kernel) (pa_cons (pv 1) (pa_cons (pe_bltn (v := .ty "bool") (by rfl) T.bo (by decide +kernel) rfl) pa_nil))))
          (pss_one (ps_ret (pe_and (pe_callB call_isi (by rfl) T.w6 (by decide +kernel) (pa_cons (pv 0) (pa_cons (pe_bltn (v := .ty "bool") (by rfl) T.bo (by decide +kernel) rfl) pa_nil))) (pe_one (pe_cmpR op_eq (pv 0) (pv 1) (nomark _)))))) pss_nil)
        (pss_cons (ps_if (PW.pt (pw_or (pt_val (pe_callB call_isi (by rfl) T.w6 (by decide +kernel) (pa_cons (pv 1) (pa_cons (pe_bltn (v := .ty "list") (by rfl) T.li (by decide +kernel) rfl) pa_nil))))
            (pw_or1 (pt_val (pe_callB call_isi (by rfl) T.w6 (by decide +kernel) (pa_cons (pv 1) (pa_cons (pe_bltn (v := .ty "tuple") (by rfl) T.tu (by decide +kernel) rfl) pa_nil)))))))
          pss_never pss_nil)
        (pss_cons (ps_if (pt_val (pe_callB call_isi (by rfl) T.w6 (by decide +kernel) (pa_cons (pv 1) (pa_cons (pe_bltn (v := .ty "str") (by rfl) T.st (by decide +kernel) rfl) pa_nil))))
          (pss_one (ps_ret (pe_and (pe_callB call_isi (by rfl) T.w6 (by decide +kernel) (pa_cons (pv 0) (pa_cons (pe_bltn (v := .ty "str") (by rfl) T.st (by decide +kernel) rfl) pa_nil))) (pe_one (pe_cmpR op_eq (pv 0) (pv 1) (nomark _)))))) pss_nil)
        (pss_one (ps_ret (pe_and (pe_callB call_isi (by rfl) T.w6 (by decide +kernel) (pa_cons (pv 0) (pa_cons (pe_bltn (v := .ty "int") (by rfl) T.it (by decide +kernel) rfl) pa_nil)))
          (pe_and (pe_not (pe_callB call_isi (by rfl) T.w6 (by decide +kernel) (pa_cons (pv 0) (pa_cons (pe_bltn (v := .ty "bool") (by rfl) T.bo (by decide +kernel) rfl) pa_nil)))) (pe_one (pe_cmpR op_eq (pv 0) (pv 1) (nomark _)))))))))), ?_⟩
      cases he with
      | non => exact ⟨_, rfl, rfl, _, rfl, iteT ⟨_, rfl, rfl, q0⟩⟩
      | bl b =>
        refine ⟨_, rfl, rfl, _, rfl, iteF ?_⟩
        refine ⟨_, rfl, _, _, _, _, true, rfl, .ty _, .base (.bl b), kit_ty (by decide +kernel), _, rfl, iteT ?_⟩
        refine ⟨_, rfl, _, _, _, _, true, rfl, .ty _, .base (.bl b), kit_ty (by decide +kernel), _, rfl, iteT ?_⟩
        refine ⟨_, rfl, _, rfl, ?_, ?_⟩
        · simp [scal]
        · rw [decide_eq_true rfl]
          exact q0
      | int i =>
        refine ⟨_, rfl, rfl, _, rfl, iteF ?_⟩
        refine ⟨_, rfl, _, _, _, _, false, rfl, .ty _, .base (.int i), kit_ty (by decide +kernel), _, rfl, iteF ?_⟩
        refine ⟨_, rfl, _, _, _, _, false, rfl, .ty _, .base (.int i), kit_ty (by decide +kernel), _, rfl, iteF ?_⟩
        refine ⟨_, rfl, _, _, _, _, false, rfl, .ty _, .base (.int i), kit_ty (by decide +kernel), _, rfl, iteF ?_⟩
        refine ⟨_, rfl, _, _, _, _, false, rfl, .ty _, .base (.int i), kit_ty (by decide +kernel), _, rfl, iteF ?_⟩
        refine ⟨_, rfl, _, _, _, _, true, rfl, .ty _, .base (.int i), kit_ty (by decide +kernel), _, rfl, iteT ?_⟩
        refine ⟨_, rfl, _, _, _, _, false, rfl, .ty _, .base (.int i), kit_ty (by decide +kernel), _, rfl, _, rfl, iteT ?_⟩
        refine ⟨_, rfl, _, rfl, ?_, ?_⟩
        · simp [scal]
        · rw [decide_eq_true rfl]
          exact q0
      | str z =>
        refine ⟨_, rfl, rfl, _, rfl, iteF ?_⟩
        refine ⟨_, rfl, _, _, _, _, false, rfl, .ty _, .base (.str z), kit_ty (by decide +kernel), _, rfl, iteF ?_⟩
        refine ⟨_, rfl, _, _, _, _, false, rfl, .ty _, .base (.str z), kit_ty (by decide +kernel), _, rfl, iteF ?_⟩
        refine ⟨_, rfl, _, _, _, _, false, rfl, .ty _, .base (.str z), kit_ty (by decide +kernel), _, rfl, iteF ?_⟩
        refine ⟨_, rfl, _, _, _, _, true, rfl, .ty _, .base (.str z), kit_ty (by decide +kernel), _, rfl, iteT ?_⟩
        refine ⟨_, rfl, _, _, _, _, true, rfl, .ty _, .base (.str z), kit_ty (by decide +kernel), _, rfl, iteT ?_⟩
        refine ⟨_, rfl, _, rfl, ?_, ?_⟩
        · simp [scal]
        · rw [decide_eq_true rfl]
          exact q0
  | n + 1 => by
    have G : FnOk P w K mg base CX0 (n + 1) f fd ["_law_found", "_law_due"] (Kq n) := GO F bS gS T n
    refine F.ok ff (fun vs H Q E h => ?_) (fun cdv A outer s H vs Q E hr h => ?_)
    · obtain ⟨x, y, rfl, _⟩ := h
      rfl
    · obtain ⟨x, y, rfl, he, q⟩ := h
      have q0 := q H (Same.refl H)
      refine ⟨_, pss_cons (ps_if (pt_cmpR op_isN (pv 1) pe_non (nomark _)) (pss_one (ps_ret (pe_cmpR op_isN (pv 0) pe_non (nomark _)))) pss_nil)
        (pss_cons (ps_if (pt_val (pe_callB call_isi (by rfl) T.w6 (by decide +kernel) (pa_cons (pv 1) (pa_cons (pe_bltn (v := .ty "bool") (by rfl) T.bo (by decide +kernel) rfl) pa_nil))))
          (pss_one (ps_ret (pe_and (pe_callB call_isi (by rfl) T.w6 (by decide +kernel) (pa_cons (pv 0) (pa_cons (pe_bltn (v := .ty "bool") (by rfl) T.bo (by decide +kernel) rfl) pa_nil))) (pe_one (pe_cmpR op_eq (pv 0) (pv 1) (nomark _)))))) pss_nil)
        (pss_cons (ps_if (PW.pt (pw_or (pt_val (pe_callB call_isi (by rfl) T.w6 (by decide +kernel) (pa_cons (pv 1) (pa_cons (pe_bltn (v := .ty "list") (by rfl) T.li (by decide +kernel) rfl) pa_nil))))
            (pw_or1 (pt_val (pe_callB call_isi (by rfl) T.w6 (by decide +kernel) (pa_cons (pv 1) (pa_cons (pe_bltn (v := .ty "tuple") (by rfl) T.tu (by decide +kernel) rfl) pa_nil)))))))
          (pss_cons (ps_if (PW.pt (pw_or (pt_cmpR op_ne (pe_callB call_isi (by rfl) T.w6 (by decide +kernel) (pa_cons (pv 0) (pa_cons (pe_bltn (v := .ty "list") (by rfl) T.li (by decide +kernel) rfl) pa_nil))) (pe_callB call_isi (by rfl) T.w6 (by decide +kernel) (pa_cons (pv 1) (pa_cons (pe_bltn (v := .ty "list") (by rfl) T.li (by decide +kernel) rfl) pa_nil))) (nomark _))
              (pw_or1 (pt_cmpR op_ne (pe_callB call_isi (by rfl) T.w6 (by decide +kernel) (pa_cons (pv 0) (pa_cons (pe_bltn (v := .ty "tuple") (by rfl) T.tu (by decide +kernel) rfl) pa_nil))) (pe_callB call_isi (by rfl) T.w6 (by decide +kernel) (pa_cons (pv 1) (pa_cons (pe_bltn (v := .ty "tuple") (by rfl) T.tu (by decide +kernel) rfl) pa_nil))) (nomark _)))))
              (pss_one (ps_ret pe_bl)) pss_nil)
            (pss_one (ps_ret (pe_and (pe_cmpR op_eq (pe_callB call_len_seq (by rfl) T.le PySem.boot_len (pa_cons (pv 0) pa_nil)) (pe_callB call_len_seq (by rfl) T.le PySem.boot_len (pa_cons (pv 1) pa_nil)) (nomark _))
              (pe_one (pe_callB (cr_all rfl) (by rfl) T.al (by decide +kernel) (pa_cons
                (pe_lc (own := [("_law_one", 2), ("_law_other", 3)]) (g := gTup K 2 (gCons (gName 2) (gCons (gName 3) gNil))) (tt := tYes) (by rfl) ff.nd (RZ.pi_zipA (by rfl) T.zi (pa_cons (pv 0) (pa_cons (pv 1) pa_nil)))
                  (blkOk_by (N := ["_law_found", "_law_due", "_law_one", "_law_other"]) (sc := defScope fY) (by decide +kernel))
                  (fun _ _ _ _ _ => pg_tup rfl (pgs_cons (pg_name (i := 2) ff.nd rfl (Or.inl rfl)) (pgs_cons (pg_name (i := 3) ff.nd rfl (Or.inl rfl)) pgs_nil)))
                  (fun _ _ _ _ _ => pts_nil)
                  (fun _ _ _ _ _ => pe_call G hr (by rfl) gS F.kp bS .nil pass0 (pa_cons (pv 2) (pa_cons (pv 3) pa_nil))))
                pa_nil)))))))
          pss_nil)
        (pss_cons (ps_if (pt_val (pe_callB call_isi (by rfl) T.w6 (by decide +kernel) (pa_cons (pv 1) (pa_cons (pe_bltn (v := .ty "str") (by rfl) T.st (by decide +kernel) rfl) pa_nil))))
          (pss_one (ps_ret (pe_and (pe_callB call_isi (by rfl) T.w6 (by decide +kernel) (pa_cons (pv 0) (pa_cons (pe_bltn (v := .ty "str") (by rfl) T.st (by decide +kernel) rfl) pa_nil))) (pe_one (pe_cmpR op_eq (pv 0) (pv 1) (nomark _)))))) pss_nil)
        (pss_one (ps_ret (pe_and (pe_callB call_isi (by rfl) T.w6 (by decide +kernel) (pa_cons (pv 0) (pa_cons (pe_bltn (v := .ty "int") (by rfl) T.it (by decide +kernel) rfl) pa_nil)))
          (pe_and (pe_not (pe_callB call_isi (by rfl) T.w6 (by decide +kernel) (pa_cons (pv 0) (pa_cons (pe_bltn (v := .ty "bool") (by rfl) T.bo (by decide +kernel) rfl) pa_nil)))) (pe_one (pe_cmpR op_eq (pv 0) (pv 1) (nomark _)))))))))), ?_⟩
      cases he with
      | non => exact ⟨_, rfl, rfl, _, rfl, iteT ⟨_, rfl, rfl, q0⟩⟩
      | bl b =>
        refine ⟨_, rfl, rfl, _, rfl, iteF ?_⟩
        refine ⟨_, rfl, _, _, _, _, true, rfl, .ty _, .base (.bl b), kit_ty (by decide +kernel), _, rfl, iteT ?_⟩
        refine ⟨_, rfl, _, _, _, _, true, rfl, .ty _, .base (.bl b), kit_ty (by decide +kernel), _, rfl, iteT ?_⟩
        refine ⟨_, rfl, _, rfl, ?_, ?_⟩
        · simp [scal]
        · rw [decide_eq_true rfl]
          exact q0
      | int i =>
        refine ⟨_, rfl, rfl, _, rfl, iteF ?_⟩
        refine ⟨_, rfl, _, _, _, _, false, rfl, .ty _, .base (.int i), kit_ty (by decide +kernel), _, rfl, iteF ?_⟩
        refine ⟨_, rfl, _, _, _, _, false, rfl, .ty _, .base (.int i), kit_ty (by decide +kernel), _, rfl, iteF ?_⟩
        refine ⟨_, rfl, _, _, _, _, false, rfl, .ty _, .base (.int i), kit_ty (by decide +kernel), _, rfl, iteF ?_⟩
        refine ⟨_, rfl, _, _, _, _, false, rfl, .ty _, .base (.int i), kit_ty (by decide +kernel), _, rfl, iteF ?_⟩
        refine ⟨_, rfl, _, _, _, _, true, rfl, .ty _, .base (.int i), kit_ty (by decide +kernel), _, rfl, iteT ?_⟩
        refine ⟨_, rfl, _, _, _, _, false, rfl, .ty _, .base (.int i), kit_ty (by decide +kernel), _, rfl, _, rfl, iteT ?_⟩
        refine ⟨_, rfl, _, rfl, ?_, ?_⟩
        · simp [scal]
        · rw [decide_eq_true rfl]
          exact q0
      | str z =>
        refine ⟨_, rfl, rfl, _, rfl, iteF ?_⟩
        refine ⟨_, rfl, _, _, _, _, false, rfl, .ty _, .base (.str z), kit_ty (by decide +kernel), _, rfl, iteF ?_⟩
        refine ⟨_, rfl, _, _, _, _, false, rfl, .ty _, .base (.str z), kit_ty (by decide +kernel), _, rfl, iteF ?_⟩
        refine ⟨_, rfl, _, _, _, _, false, rfl, .ty _, .base (.str z), kit_ty (by decide +kernel), _, rfl, iteF ?_⟩
        refine ⟨_, rfl, _, _, _, _, true, rfl, .ty _, .base (.str z), kit_ty (by decide +kernel), _, rfl, iteT ?_⟩
        refine ⟨_, rfl, _, _, _, _, true, rfl, .ty _, .base (.str z), kit_ty (by decide +kernel), _, rfl, iteT ?_⟩
        refine ⟨_, rfl, _, rfl, ?_, ?_⟩
        · simp [scal]
        · rw [decide_eq_true rfl]
          exact q0
      | @tup _ a b xs ys ha hb hl hz he =>
        refine ⟨_, rfl, rfl, _, rfl, iteF ?_⟩
        refine ⟨_, rfl, _, _, _, _, false, rfl, .ty _, .base (.tup hb), kit_ty (by decide +kernel), _, rfl, iteF ?_⟩
        refine ⟨_, rfl, _, _, _, _, false, rfl, .ty _, .base (.tup hb), kit_ty (by decide +kernel), _, rfl, iteF ?_⟩
        refine ⟨_, rfl, _, _, _, _, true, rfl, .ty _, .base (.tup hb), kit_ty (by decide +kernel), _, rfl, iteT ?_⟩
        refine ⟨_, rfl, _, _, _, _, false, rfl, .ty _, .base (.tup ha), kit_ty (by decide +kernel), _, rfl, _, _, _, _, false, rfl, .ty _, .base (.tup hb), kit_ty (by decide +kernel), rfl, _, rfl, iteF ?_⟩
        refine ⟨_, rfl, _, _, _, _, true, rfl, .ty _, .base (.tup ha), kit_ty (by decide +kernel), _, rfl, _, _, _, _, true, rfl, .ty _, .base (.tup hb), kit_ty (by decide +kernel), rfl, _, rfl, iteF ?_⟩
        refine ⟨_, rfl, a, xs, rfl, .inr (SqT.of ha), _, rfl, b, ys, rfl, .inr (SqT.of hb), rfl, _, rfl, ?_⟩
        rw [decide_eq_true (show V.int (xs.length : Int) = V.int (ys.length : Int) by rw [hl])]
        refine iteT ?_
        refine ⟨_, rfl, _, rfl, a, b, xs, ys, rfl, .inr ⟨SqT.of ha, SqT.of hb, fun D nD => ?_⟩⟩
        refine lc_it (oB (xs := xs) (ys := ys) (n := xs.length) (by omega)) (fun i H' => Same H H' ∧ H' D = some (.lst (List.replicate i (.bl true)))) ⟨cS nD, upd_same⟩ (fun i H' _ p => ⟨Cv p.1 (SqT.of ha), Cv p.1 (SqT.of hb)⟩) (fun i v H2 H3 hi p hy => ?_) (fun H2 p => ?_)
        · obtain ⟨p1, p2⟩ := p
          obtain ⟨T', x, y, rfl, nT, rfl, ex, ey⟩ := hy
          have sT : Same H2 (upd H2 T' (.tup [x, y])) := cS nT
          refine ⟨T', [x, y], rfl, .inl (.inl upd_same), rfl, x, [y], rfl, y, [], rfl, rfl, rfl, ?_⟩
          refine yes (iteT ?_)
          refine ⟨x, rfl, y, rfl, x, y, rfl, (he i x y ex ey).keep (p1.trans sT), fun H4 s4 => ?_⟩
          refine ⟨_, s4 _ _ (sT _ _ p2), ?_, ?_, ?_⟩
          · rw [List.length_replicate]
            exact small1000 (by omega)
          · intro c o e
            rw [upd_ne (ne_of_none e nD)]
            exact s4 _ _ (sT _ _ (p1 _ _ e))
          · rw [upd_same, List.replicate_succ']
        · refine ⟨D, List.replicate xs.length true, rfl, ?_, ?_⟩
          · rw [← IB]
            exact SqL.of p.2
          · rw [all_true]
            exact q _ p.1
      | @lst _ a b xs ys ha hb hl hz he =>
        refine ⟨_, rfl, rfl, _, rfl, iteF ?_⟩
        refine ⟨_, rfl, _, _, _, _, false, rfl, .ty _, .base (.lst hb), kit_ty (by decide +kernel), _, rfl, iteF ?_⟩
        refine ⟨_, rfl, _, _, _, _, true, rfl, .ty _, .base (.lst hb), kit_ty (by decide +kernel), _, rfl, iteT ?_⟩
        refine ⟨_, rfl, _, _, _, _, true, rfl, .ty _, .base (.lst ha), kit_ty (by decide +kernel), _, rfl, _, _, _, _, true, rfl, .ty _, .base (.lst hb), kit_ty (by decide +kernel), rfl, _, rfl, iteF ?_⟩
        refine ⟨_, rfl, _, _, _, _, false, rfl, .ty _, .base (.lst ha), kit_ty (by decide +kernel), _, rfl, _, _, _, _, false, rfl, .ty _, .base (.lst hb), kit_ty (by decide +kernel), rfl, _, rfl, iteF ?_⟩
        refine ⟨_, rfl, a, xs, rfl, .inl (SqL.of ha), _, rfl, b, ys, rfl, .inl (SqL.of hb), rfl, _, rfl, ?_⟩
        rw [decide_eq_true (show V.int (xs.length : Int) = V.int (ys.length : Int) by rw [hl])]
        refine iteT ?_
        refine ⟨_, rfl, _, rfl, a, b, xs, ys, rfl, .inl ⟨SqL.of ha, SqL.of hb, fun D nD => ?_⟩⟩
        refine lc_it (walk_zip (xs := xs) (ys := ys) (n := xs.length) (by omega)) (fun i H' => Same H H' ∧ H' D = some (.lst (List.replicate i (.bl true)))) ⟨cS nD, upd_same⟩ (fun i H' _ p => ⟨p.1.seq (SqL.of ha), p.1.seq (SqL.of hb)⟩) (fun i v H2 H3 hi p hy => ?_) (fun H2 p => ?_)
        · obtain ⟨p1, p2⟩ := p
          obtain ⟨T', x, y, rfl, nT, rfl, ex, ey⟩ := hy
          have sT : Same H2 (upd H2 T' (.tup [x, y])) := cS nT
          refine ⟨T', [x, y], rfl, .inl (.inl upd_same), rfl, x, [y], rfl, y, [], rfl, rfl, rfl, ?_⟩
          refine yes (iteT ?_)
          refine ⟨x, rfl, y, rfl, x, y, rfl, (he i x y ex ey).keep (p1.trans sT), fun H4 s4 => ?_⟩
          refine ⟨_, s4 _ _ (sT _ _ p2), ?_, ?_, ?_⟩
          · rw [List.length_replicate]
            exact small1000 (by omega)
          · intro c o e
            rw [upd_ne (ne_of_none e nD)]
            exact s4 _ _ (sT _ _ (p1 _ _ e))
          · rw [upd_same, List.replicate_succ']
        · refine ⟨D, List.replicate xs.length true, rfl, ?_, ?_⟩
          · rw [← IB]
            exact SqL.of p.2
          · rw [all_true]
            exact q _ p.1
end
end DY
namespace DY
open PySem PySem.Spec PyProof.Rows L2 DL
inductive Plain : Nat → Dt → Prop
  | non {n : Nat} : Plain n .non
  | bl {n : Nat} (b : Bool) : Plain n (.bl b)
  | int {n : Nat} (i : Int) : Plain n (.int i)
  | str {n : Nat} (z : Str) : Plain n (.str z)
  | tup {n : Nat} {ds : List Dt} (hl : ds.length ≤ 1000) (h : ∀ (i : Nat) (d : Dt), ds[i]? = some d → Plain n d) : Plain (n + 1) (.tup ds)
  | lst {n : Nat} {ds : List Dt} (hl : ds.length ≤ 1000) (h : ∀ (i : Nat) (d : Dt), ds[i]? = some d → Plain n d) : Plain (n + 1) (.lst ds)
theorem Rb {K : PySem.W.Frag} {C : Cf} {S H : Hp} (s : Same S H) {n : Nat} {d : Dt} (p : Plain n d) : ∀ {x y : V}, Rep K C S x d → Rep K C S y d → Eqv H n x y := by
  induction p with
  | non => intro x y a b; cases a; cases b; exact .non
  | bl b => intro x y a c; cases a; cases c; exact .bl _
  | int i => intro x y a b; cases a; cases b; exact .int _
  | str z => intro x y a b; cases a; cases b; exact .str _
  | @tup n ds hl h ih =>
    intro x y a b
    cases a with
    | tup h1 r1 =>
      cases b with
      | tup h2 r2 =>
        refine .tup (s _ _ h1) (s _ _ h2) (by rw [r1.len, r2.len]) (by rw [r1.len]; exact hl) fun i u v hu hv => ?_
        obtain ⟨d1, e1, q1⟩ := r1.get' hu
        obtain ⟨d2, e2, q2⟩ := r2.get' hv
        rw [e1] at e2
        cases e2
        exact ih i _ e1 q1 q2
  | @lst n ds hl h ih =>
    intro x y a b
    cases a with
    | lst h1 r1 =>
      cases b with
      | lst h2 r2 =>
        refine .lst (s _ _ h1) (s _ _ h2) (by rw [r1.len, r2.len]) (by rw [r1.len]; exact hl) fun i u v hu hv => ?_
        obtain ⟨d1, e1, q1⟩ := r1.get' hu
        obtain ⟨d2, e2, q2⟩ := r2.get' hv
        rw [e1] at e2
        cases e2
        exact ih i _ e1 q1 q2
open Classical in
noncomputable def aO (ds : List Dt) : Option Dt := if ∃ d, ds = [d, d] ∧ Plain 6 d then some (.bl true) else none
theorem AG {d : Dt} (h : Plain 6 d) : aO [d, d] = some (.bl true) := if_pos ⟨d, rfl, h⟩
end DY
namespace DL
open PySem PySem.Spec PyProof.Rows L2
section
variable {X : Cx} {K : PySem.W.Frag} {C : Cf} {B O : Addr → Prop} {H : Hp} {σ : L2.St} {env : En} {ta tb te : TE}
def S6 (O : Addr → Prop) (t : Addr) : Addr → Prop := fun a => O a ∧ a ≠ t
theorem cG.view {i : Nat} {t : Addr} {D : Dt} (st : cG K C B O H σ env) (hσ : σ[i]? = some (some (.ref t))) (hB : B t) (r : Rep K C (mask (S6 O t) H) (.ref t) D) : cG K C (S6 B t) (S6 O t) H σ (env.set i (.sh D)) where
  len := by rw [List.length_set]; exact st.len
  sh := fun j d e => by
    rcases getset e with ⟨rfl, e'⟩ | ⟨ne, e'⟩
    · cases e'
      exact ⟨_, hσ, r⟩
    · obtain ⟨v, h1, h2⟩ := st.sh j d e'
      exact ⟨v, h1, h2.keep (iS fun a z => z.1)⟩
  ow := fun j ds e => by
    rcases getset e with ⟨rfl, e'⟩ | ⟨ne, e'⟩
    · cases e'
    · obtain ⟨p, vs, h1, h2, h3, h4, h5⟩ := st.ow j ds e'
      have hp : p ≠ t := fun z => h3 (by rw [z]; exact hB)
      exact ⟨p, vs, h1, ⟨h2, hp⟩, fun z => h3 z.1, h4, h5.keep (iS fun a z => z.1)⟩
  nd := fun j k ds es p e1 e2 e3 e4 => by
    rcases getset e1 with ⟨rfl, e'⟩ | ⟨n1, e'⟩
    · cases e'
    · rcases getset e2 with ⟨rfl, e''⟩ | ⟨n2, e''⟩
      · cases e''
      · exact st.nd j k ds es p e' e'' e3 e4
  al := fun a ha => st.al a ha.1
  bo := fun a ha => ⟨st.bo a ha.1, ha.2⟩
  od := by
    obtain ⟨R, q⟩ := st.od
    refine ⟨R, q.mono (fun j d e => ?_) (fun k a ha => ⟨⟨(q.le k a ha).1, fun z => (q.le k a ha).2 (by rw [z]; exact hB)⟩, fun z => (q.le k a ha).2 z.1⟩) (fun _ _ _ _ e => e) (fun _ _ e => e) fun k j ds p e1 e2 => ?_⟩
    · rcases getset e with ⟨rfl, e'⟩ | ⟨ne, e'⟩
      · cases e'
      · exact ⟨e', rfl⟩
    · rcases getset e1 with ⟨rfl, e'⟩ | ⟨ne, e'⟩
      · cases e'
      · exact q.ow k j ds p e' e2
end
end DL
namespace DL
open PySem PySem.Spec PyProof.Rows L2
section
variable {X : Cx} {K : PySem.W.Frag} {C : Cf} {B O : Addr → Prop} {H : Hp} {σ : L2.St} {env : En} {ta tb te tk tv : TE}
theorem jr.snoc {kvs : List (Key × V)} {kds : List (Key × Dt)} {S : Hp} {k : Key} {v : V} {d : Dt} (r : jr K C S kvs kds) (h : Rep K C S v d) : jr K C S (kvs ++ [(k, v)]) (kds ++ [(k, d)]) := by
  induction kvs generalizing kds with
  | nil =>
    cases r
    exact .cons h .nil
  | cons a l ih =>
    cases r with
    | cons h1 r1 => exact .cons h1 (ih r1)
end
end DL
namespace DL
open PySem PySem.Spec PyProof.Rows L2
section
variable {X : Cx} {w : World} {K : PySem.W.Frag} {C : Cf} {B O : Addr → Prop} {H : Hp} {σ : L2.St} {env : En} {ta tb te tk tv : TE}
theorem kE : lG K C tNever env none := fun r e => by cases e
def vX (ns : List Str) : Dt → Option Dt
  | .str z => if z ∈ ns then some (.bl false) else none
  | _ => none
def OB (K : PySem.W.Frag) (a : Addr) : R2 := fun x y H Q => ∃ (z : Str) (r : Option Value), x = .str z ∧ y = .ref a ∧ PySem.W.nsIn K a z = some r ∧ Q (.bl (!r.isSome)) H
def Ww {β : Type} (K : PySem.W.Frag) (a : Addr) (t : List (Str × β)) : Prop := ∀ q ∈ t, ∃ u : Value, PySem.W.nsIn K a q.1 = some (some u)
theorem HV {β : Type} {a : Addr} {tab : List (Str × β)} {o : Option Dt} (hv : Ww K a tab) (ha : eu K C te env o) : eu K C (tOp (OB K a) te (tC (.ref a))) env (o1 (vX (tab.map (·.1))) o) := fun d e B O H σ st Q q => by
  cases eo : o with
  | none => rw [eo] at e; cases e
  | some x =>
    rw [eo] at e
    have e : vX (tab.map (·.1)) x = some d := e
    cases x with
    | str z =>
      unfold vX at e
      dsimp only at e
      split at e
      · next hm =>
        cases e
        obtain ⟨p, hp, rfl⟩ := List.mem_map.mp hm
        obtain ⟨u, hu⟩ := hv p hp
        refine ha _ eo B O H σ st _ fun H1 v s1 r1 => ?_
        cases r1
        exact ⟨p.1, some u, rfl, rfl, hu, q H1 _ s1 .bl⟩
      · cases e
    | _ => cases e
theorem Lc {a : Addr} {tab : List (Str × Nat)} {o : Option Dt} (hv : ∀ q ∈ tab, ∃ (u : Value) (t : Addr) (xs : List V), PySem.W.nsIn K a q.1 = some (some u) ∧ RelV (.ref t) u ∧ xs.length = q.2 ∧ ∀ H : Hp, SqT K H t xs) (ha : eu K C te env o) : eu K C (tOp (OB K a) te (tC (.ref a))) env (o1 (vX (tab.map (·.1))) o) :=
  HV (fun q hq => let ⟨u, _, _, h, _⟩ := hv q hq; ⟨u, h⟩) ha
def atK {β : Type} (t : List (Str × β)) (z : Str) : Option β := (t.find? fun q => decide (q.1 = z)).map (·.2)
theorem qy {β : Type} {t : List (Str × β)} {z : Str} {b : β} (h : atK t z = some b) : (z, b) ∈ t := by
  unfold atK at h
  obtain ⟨q, hq, rfl⟩ := Option.map_eq_some_iff.mp h
  have h1 := List.find?_some hq
  have h2 : q.1 = z := of_decide_eq_true h1
  subst h2
  exact List.mem_of_find?_eq_some hq
def wN (t : List (Str × Nat)) : Dt → Option Dt
  | .str z => (atK t z).map fun n => .int (n : Nat)
  | _ => none
def TQ (K : PySem.W.Frag) : List V → Hp → VK → Prop := fun xs H Q => ∃ a ys, xs = [V.ref a] ∧ (SqL K H a ys ∨ SqT K H a ys) ∧ Q (.int ys.length) H
theorem LO {a : Addr} {tab : List (Str × Nat)} {o : Option Dt} (hk : ∃ es n, KDict K w a es n) (hv : ∀ q ∈ tab, ∃ (u : Value) (t : Addr) (xs : List V), PySem.W.nsIn K a q.1 = some (some u) ∧ RelV (.ref t) u ∧ xs.length = q.2 ∧ ∀ H : Hp, SqT K H t xs) (ha : eu K C te env o) : eu K C (tCB (TQ K) (tCons (tOp (rIxD K w) (tC (.ref a)) te) tNil)) env (o1 (wN tab) o) := fun d e B O H σ st Q q => by
  cases eo : o with
  | none => rw [eo] at e; cases e
  | some x =>
    rw [eo] at e
    have e : wN tab x = some d := e
    cases x with
    | str z =>
      obtain ⟨i, hi, rfl⟩ := Option.map_eq_some_iff.mp e
      obtain ⟨u, t, xs, hu, ru, hl, hs⟩ := hv _ (qy hi)
      obtain ⟨es, n, kd⟩ := hk
      refine ha _ eo B O H σ st _ fun H1 v s1 r1 => ?_
      cases r1
      have hl : xs.length = i := hl
      exact ⟨a, z, .ref t, rfl, rfl, ⟨es, n, u, kd.at_, kd.lit, hu, ru⟩, t, xs, rfl, .inr (hs _), by rw [hl]; exact q H1 _ s1 .int⟩
    | _ => cases e
end
end DL
namespace DL
open PySem PySem.Spec PyProof.Rows L2
end DL
namespace DL
open PySem PySem.Spec PyProof.Rows L2
end DL
namespace DL
open PySem PySem.Spec PyProof.Rows L2
mutual
def Ia : Dt → Bool
  | .tup xs => NW xs
  | .non => true
  | .bl _ => true
  | .int _ => true
  | .str _ => true
  | _ => false
def NW : List Dt → Bool
  | [] => true
  | d :: r => Ia d && NW r
end
section
variable {K : PySem.W.Frag} {C : Cf} {S S' : Hp}
mutual
theorem Rep.keepT {C' : Cf} (s : DY.TS S S') : ∀ {v : V} {d : Dt}, Rep K C S v d → Ia d = true → Rep K C' S' v d
  | _, _, .non, _ => .non
  | _, _, .bl, _ => .bl
  | _, _, .int, _ => .int
  | _, _, .str, _ => .str
  | _, _, .tup h r, n => .tup (s _ _ h) (aH.keepT s r n)
  | _, _, .lst h r, n => by rw [Ia] at n <;> first | (cases n; done) | (intros; intro z; cases z)
  | _, _, .dic h r, n => by rw [Ia] at n <;> first | (cases n; done) | (intros; intro z; cases z)
  | _, _, .yard hl h, n => by rw [Ia] at n <;> first | (cases n; done) | (intros; intro z; cases z)
  | _, _, .ins h _ r, n => by rw [Ia] at n <;> first | (cases n; done) | (intros; intro z; cases z)
  | _, _, .ys _ _ _, n => by rw [Ia] at n <;> first | (cases n; done) | (intros; intro z; cases z)
  | _, _, .dia _ _, n => by rw [Ia] at n <;> first | (cases n; done) | (intros; intro z; cases z)
  | _, _, .scr h, n => by rw [Ia] at n <;> first | (cases n; done) | (intros; intro z; cases z)
theorem aH.keepT {C' : Cf} (s : DY.TS S S') : ∀ {vs : List V} {ds : List Dt}, aH K C S vs ds → NW ds = true → aH K C' S' vs ds
  | _, _, .nil, _ => .nil
  | _, _, .cons h r, n => by
    rw [NW, Bool.and_eq_true_iff] at n
    exact .cons (Rep.keepT s h n.1) (aH.keepT s r n.2)
end
end
def Gf : Sl → Sl
  | .od d => .sh d
  | s => s
def HY (env : En) : En := env.map Gf
theorem F9 : HY [] = [] := (rfl)
theorem D9 (s : Sl) (e : En) : HY (s :: e) = Gf s :: HY e := (rfl)
theorem IS : Gf .no = .no := (rfl)
theorem MI (d : Dt) : Gf (.sh d) = .sh d := (rfl)
theorem Mn (d : List Dt) : Gf (.ow d) = .ow d := (rfl)
theorem LC (d : Dt) : Gf (.od d) = .sh d := (rfl)
section
variable {K : PySem.W.Frag} {C : Cf} {B O : Addr → Prop} {H : Hp} {σ : L2.St} {env : En} {te : TE}
theorem rE {i : Nat} {x : Sl} (h : (HY env)[i]? = some x) : ∃ s, env[i]? = some s ∧ x = Gf s := by
  unfold HY at h
  rw [List.getElem?_map] at h
  cases e : env[i]? with
  | none => rw [e] at h; cases h
  | some s => rw [e] at h; cases h; exact ⟨s, rfl, rfl⟩
theorem LH {s : Sl} {d : Dt} (h : Sl.sh d = Gf s) : s = .sh d ∨ s = .od d := by
  cases s with
  | no => cases h
  | sh e => cases h; exact .inl rfl
  | ow e => cases h
  | od e => cases h; exact .inr rfl
theorem Em {s : Sl} {d : List Dt} (h : Sl.ow d = Gf s) : s = .ow d := by
  cases s with
  | no => cases h
  | sh e => cases h
  | ow e => cases h; rfl
  | od e => cases h
theorem JS {s : Sl} {d : Dt} (h : Sl.od d = Gf s) : False := by cases s <;> cases h
theorem cG.shr (hl : C.lk = none) (st : cG K C B O H σ env) : ∃ O' : Addr → Prop, (∀ a, O' a → O a) ∧ cG K C B O' H σ (HY env) := by
  obtain ⟨R, r⟩ := st.od
  have sub : Same (mask O H) (mask (fun a => O a ∧ ∀ i, ¬ R i a) H) := iS fun a z => z.1
  refine ⟨fun a => O a ∧ ∀ i, ¬ R i a, fun a z => z.1, ?_⟩
  exact {
    len := by unfold HY; rw [List.length_map]; exact st.len
    sh := fun i d e => by
      obtain ⟨s, h1, h2⟩ := rE e
      rcases LH h2 with rfl | rfl
      · obtain ⟨v, k1, k2⟩ := st.sh i d h1
        exact ⟨v, k1, k2.keep sub⟩
      · obtain ⟨v, k1, k2⟩ := r.get i d h1
        rw [← hl] at k2
        refine ⟨v, k1, k2.keep fun a o e => ?_⟩
        obtain ⟨g1, g2⟩ := nV e
        rw [aZ]
        · exact g2
        · rintro ⟨z1, z2⟩
          rcases g1 with g1 | g1
          · exact z2 i g1
          · obtain ⟨o', e1, e2⟩ := st.al a z1
            rw [g2] at e1
            cases e1
            rw [g1] at e2
            cases e2
    ow := fun i ds e => by
      obtain ⟨s, h1, h2⟩ := rE e
      cases Em h2
      obtain ⟨p, vs, k1, k2, k3, k4, k5⟩ := st.ow i ds h1
      exact ⟨p, vs, k1, ⟨k2, fun j => r.ow j i ds p h1 k1⟩, k3, k4, k5.keep sub⟩
    nd := fun i j ds es p e1 e2 => by
      obtain ⟨s, h1, h2⟩ := rE e1
      cases Em h2
      obtain ⟨s, h3, h4⟩ := rE e2
      cases Em h4
      exact st.nd i j ds es p h1 h3
    al := fun a ha => st.al a ha.1
    bo := fun a ha => ⟨st.bo a ha, fun i z => (r.le i a z).2 ha⟩
    od := Ec.non fun i d e => by
      obtain ⟨s, h1, h2⟩ := rE e
      exact JS h2 }
def UT (o : Option Dt) : Option Dt := o.bind fun d => if Ia d = true then some d else none
def Ux (env : En) (f : En → Option Dt) : Option Dt := UT (f (HY env))
def MZ (env : En) (f : En → Option Bool) : Option Bool := f (HY env)
theorem G1 (env : En) (f : En → Option Dt) : Ux env f = UT (f (HY env)) := (rfl)
theorem OO (env : En) (f : En → Option Bool) : MZ env f = f (HY env) := (rfl)
theorem GK (s : Str) : UT (some (.str s)) = some (.str s) := (rfl)
theorem Jr (b : Bool) : UT (some (.bl b)) = some (.bl b) := (rfl)
theorem Nf {f : En → Option Dt} (h : ∀ e, eu K C te e (f e)) (hl : C.lk = none := by rfl) : eu K C te env (Ux env f) := fun d e B O H σ st Q q => by
  obtain ⟨O', hO, st'⟩ := st.shr hl
  cases eo : f (HY env) with
  | none => rw [G1, eo] at e; cases e
  | some d' =>
    rw [G1, eo] at e
    have e : (if Ia d' = true then some d' else none) = some d := e
    by_cases ha : Ia d' = true
    · rw [if_pos ha] at e
      cases e
      refine h _ d eo B O' H σ st' Q fun H' v s r => q H' v s (r.keepT (fun p xs e => ?_) ha)
      obtain ⟨n1, n2⟩ := b9 e
      rw [aZ ((st.al.keep s).tup n2)]
      exact n2
    · rw [if_neg ha] at e; cases e
theorem GI {tt : TT} {f : En → Option Bool} (h : ∀ e, zG K C tt e (f e)) (hl : C.lk = none := by rfl) : zG K C tt env (MZ env f) := fun b e B O H σ st Q q => by
  obtain ⟨O', hO, st'⟩ := st.shr hl
  exact h _ b e B O' H σ st' Q q
def F8 : List Bool → En → En
  | b :: bs, s :: ss => (if b = true then Gf s else .no) :: F8 bs ss
  | [], ss => ss.map fun _ => .no
  | _ :: _, [] => []
theorem qz (e : En) : F8 [] e = e.map fun _ => .no := by cases e <;> rfl
theorem Ot (bs : List Bool) (s : Sl) (e : En) : F8 (true :: bs) (s :: e) = Gf s :: F8 bs e := (rfl)
theorem O0 (bs : List Bool) (s : Sl) (e : En) : F8 (false :: bs) (s :: e) = .no :: F8 bs e := (rfl)
theorem GU : ∀ (bs : List Bool) (e : En), (F8 bs e).length = e.length
  | [], e => by rw [qz, List.length_map]
  | _ :: _, [] => rfl
  | b :: bs, s :: e => by rw [F8, List.length_cons, List.length_cons, GU bs e]
theorem E9 : ∀ (bs : List Bool) (e : En) {i : Nat} {x : Sl}, (F8 bs e)[i]? = some x → x = .no ∨ ∃ s, e[i]? = some s ∧ x = Gf s
  | [], e, i, x, h => by
    rw [qz, List.getElem?_map] at h
    cases ee : e[i]? with
    | none => rw [ee] at h; cases h
    | some s => rw [ee] at h; cases h; exact .inl rfl
  | _ :: _, [], i, x, h => by rw [F8] at h; cases h
  | b :: bs, s :: e, i, x, h => by
    rw [F8] at h
    cases i with
    | zero =>
      have h : some (if b = true then Gf s else .no) = some x := h
      cases h
      by_cases hb : b = true
      · rw [if_pos hb]; exact .inr ⟨s, rfl, rfl⟩
      · rw [if_neg hb]; exact .inl rfl
    | succ i => exact E9 bs e (i := i) h
theorem cG.kp {bs : List Bool} {P : HO → Bool} (hl : C.lk = none) (st : cG K C B O H σ env) (hw : ∀ (i : Nat) (ds : List Dt), (F8 bs env)[i]? ≠ some (.ow ds)) (hk : ∀ (i : Nat) (d : Dt) (M : Hp) (v : V), (F8 bs env)[i]? = some (.sh d) → Same M H → Rep K C M v d → Rep K C (mask (fun a => ∃ o, H a = some o ∧ P o = true ∧ isTup o = false) H) v d) :
    cG K C (fun _ => False) (fun a => ∃ o, H a = some o ∧ P o = true ∧ isTup o = false) H σ (F8 bs env) where
  len := by rw [GU]; exact st.len
  sh := fun i d e => by
    rcases E9 _ _ e with z | ⟨s, h1, h2⟩
    · cases z
    · rcases LH h2 with rfl | rfl
      · obtain ⟨v, k1, k2⟩ := st.sh i d h1
        exact ⟨v, k1, hk i d _ v e aG k2⟩
      · obtain ⟨R, r⟩ := st.od
        obtain ⟨v, k1, k2⟩ := r.get i d h1
        rw [← hl] at k2
        exact ⟨v, k1, hk i d _ v e aG k2⟩
  ow := fun i ds e => absurd e (hw i ds)
  nd := fun i j ds es p e => absurd e (hw i ds)
  al := fun a ⟨o, h1, h2, h3⟩ => ⟨o, h1, h3⟩
  bo := fun a z => z.elim
  od := Ec.non fun i d e => by
    rcases E9 _ _ e with z | ⟨s, h1, h2⟩
    · cases z
    · exact JS h2
section
variable (K : PySem.W.Frag) (C : Cf)
def VS (te : TE) (env : En) (o : Option Dt) : Prop := ∀ d, o = some d → ∀ B O H σ, cG K C B O H σ env → ∀ Q : VK, (∀ H' v (R : Addr → Prop), Same H H' → (∀ a, R a → H a = none ∧ ∃ o, H' a = some o ∧ isTup o = false) → Rep K C (only R H') v d → Q v H') → te σ H Q
end
theorem cG.setOd (st : cG K C B O H σ env) {i : Nat} {v : V} {d : Dt} {H' : Hp} {Q : Addr → Prop} (s : Same H H') (hQ : ∀ a, Q a → H a = none ∧ ∃ o, H' a = some o ∧ isTup o = false) (hl : C.lk = none) (r : Rep K C (only Q H') v d) : cG K C B (fun a => O a ∨ Q a) H' (σ.set i (some v)) (env.set i (.od d)) := by
  have sub : Same (mask O H) (mask (fun a => O a ∨ Q a) H') := fun a o ha => by
    obtain ⟨n1, n2⟩ := b9 ha
    rw [aZ fun z => z.elim n1 fun y => by rw [(hQ a y).1] at n2; cases n2]
    exact s _ _ n2
  obtain ⟨R, g⟩ := st.od
  exact {
    len := by rw [List.length_set, List.length_set]; exact st.len
    sh := fun j d' e => by
      rcases getset e with ⟨rfl, e'⟩ | ⟨ne, e'⟩
      · cases e'
      · obtain ⟨v', h1, h2⟩ := st.sh j d' e'
        exact ⟨v', by rw [List.getElem?_set_ne ne.symm]; exact h1, h2.keep sub⟩
    ow := fun j es e => by
      rcases getset e with ⟨rfl, e'⟩ | ⟨ne, e'⟩
      · cases e'
      · obtain ⟨p', vs', h1, h2, h3, h4, h5⟩ := st.ow j es e'
        exact ⟨p', vs', by rw [List.getElem?_set_ne ne.symm]; exact h1, .inl h2, h3, s _ _ h4, h5.keep sub⟩
    nd := fun j k es fs q e1 e2 e3 e4 => by
      rcases getset e1 with ⟨rfl, e'⟩ | ⟨n1, e'⟩
      · cases e'
      · rcases getset e2 with ⟨rfl, e''⟩ | ⟨n2, e''⟩
        · cases e''
        · rw [List.getElem?_set_ne n1.symm] at e3
          rw [List.getElem?_set_ne n2.symm] at e4
          exact st.nd j k es fs q e' e'' e3 e4
    al := fun a ha => ha.elim (fun z => st.al.keep s a z) fun z => (hQ a z).2
    bo := fun a ha => .inl (st.bo a ha)
    od := by
      have gn : ∀ j a, R j a → H a ≠ none := fun j a ha z => by
        obtain ⟨o, e, _⟩ := st.al a (g.le j a ha).1
        rw [z] at e
        cases e
      refine ⟨fun j a => (j = i ∧ Q a) ∨ (j ≠ i ∧ R j a), ?_⟩
      refine { get := fun j d' e => ?_, le := fun j a ha => ?_, dj := fun j k a h1 h2 => ?_, ow := fun k j es p e1 e2 hp => ?_ }
      · rcases getset e with ⟨rfl, e'⟩ | ⟨ne, e'⟩
        · cases e'
          have hl' : j < σ.length := by
            rw [st.len]
            have := (List.getElem?_eq_some_iff.mp e).1
            rw [List.length_set] at this
            exact this
          have r : Rep K ⟨C.c, none⟩ (only Q H') v d := by rw [← hl]; exact r
          exact ⟨v, List.getElem?_set_self hl', r.keep (iW (fun a o ha ho => ⟨.inl ⟨rfl, ha⟩, ho⟩) fun _ _ e => e)⟩
        · obtain ⟨v', k1, k2⟩ := g.get j d' e'
          exact ⟨v', by rw [List.getElem?_set_ne ne.symm]; exact k1, k2.keep (iW (fun a o ha ho => ⟨.inr ⟨ne, ha⟩, s _ _ ho⟩) fun _ _ e => s _ _ e)⟩
      · rcases ha with ⟨_, ha⟩ | ⟨_, ha⟩
        · exact ⟨.inr ha, fun z => st.al.new (hQ a ha).1 (st.bo a z)⟩
        · exact ⟨.inl (g.le j a ha).1, (g.le j a ha).2⟩
      · rcases h1 with ⟨e1, h1⟩ | ⟨e1, h1⟩
        · rcases h2 with ⟨e2, h2⟩ | ⟨e2, h2⟩
          · rw [e1, e2]
          · exact absurd (hQ a h1).1 (gn _ _ h2)
        · rcases h2 with ⟨e2, h2⟩ | ⟨e2, h2⟩
          · exact absurd (hQ a h2).1 (gn _ _ h1)
          · exact g.dj j k a h1 h2
      · rcases getset e1 with ⟨rfl, e'⟩ | ⟨ne, e'⟩
        · cases e'
        · rw [List.getElem?_set_ne ne.symm] at e2
          rcases hp with ⟨_, hp⟩ | ⟨_, hp⟩
          · obtain ⟨p', vs', h1, h2, h3, h4, h5⟩ := st.ow j es e'
            rw [e2] at h1
            cases h1
            rw [(hQ p hp).1] at h4
            cases h4
          · exact g.ow k j es p e' e2 hp }
theorem OU (st : cG K C B O H σ env) {H' : Hp} {Q : Addr → Prop} (s : Same H H') (hQ : ∀ a, Q a → H a = none) : Pg B O H (fun a => O a ∨ Q a) H' := ⟨fun a o ha => by
  obtain ⟨n1, n2⟩ := b9 ha
  rw [aZ fun z => z.elim n1 fun y => by rw [hQ a y] at n2; cases n2]
  exact s _ _ n2, (st.pg s).2⟩
theorem Sd {i : Nat} {a : Option Dt} (ha : VS K C te env a) (hl : C.lk = none := by rfl) : lG K C (tAsg te (gName i)) env (a.map fun d => .nx (env.set i (.od d))) := fun r e B O H σ st D p => by
  cases ea : a with
  | none => rw [ea] at e; cases e
  | some d =>
    rw [ea] at e
    cases e
    exact ha d ea B O H σ st _ fun H1 v R s1 hR r1 => p _ H1 _ (OU st s1 fun a z => (hR a z).1) (st.setOd s1 hR hl r1)
theorem cG.chg (st : cG K C B O H σ env) {R : Nat → Addr → Prop} (g : Ec K C B O H σ env R) {i : Nat} {H' : Hp} (x : Sl) (fr : ∀ a o, ¬ R i a → H a = some o → H' a = some o) (ts : DY.TS H H') (al : ∀ a, R i a → ∃ o, H' a = some o ∧ isTup o = false)
    (hx : x = .no ∨ ∃ d v, x = .od d ∧ σ[i]? = some (some v) ∧ Rep K ⟨C.c, none⟩ (only (R i) H') v d) : cG K C B O H' σ (env.set i x) ∧ Pg B O H O H' := by
  have nR : ∀ {a : Addr}, ¬ O a → ¬ R i a := fun h z => h (g.le i _ z).1
  have sub : Same (mask O H) (mask O H') := fun a o ha => by
    obtain ⟨n1, n2⟩ := b9 ha
    rw [aZ n1]
    exact fr _ _ (nR n1) n2
  have nsh : ∀ d, x ≠ .sh d := fun d z => by rcases hx with h | ⟨_, _, h, _⟩ <;> rw [h] at z <;> cases z
  have now : ∀ d, x ≠ .ow d := fun d z => by rcases hx with h | ⟨_, _, h, _⟩ <;> rw [h] at z <;> cases z
  refine ⟨?_, sub, fun a ha => ?_⟩
  · exact {
      len := by rw [List.length_set]; exact st.len
      sh := fun j d' e => by
        rcases getset e with ⟨rfl, e'⟩ | ⟨ne, e'⟩
        · exact absurd e'.symm (nsh _)
        · obtain ⟨v', h1, h2⟩ := st.sh j d' e'
          exact ⟨v', h1, h2.keep sub⟩
      ow := fun j es e => by
        rcases getset e with ⟨rfl, e'⟩ | ⟨ne, e'⟩
        · exact absurd e'.symm (now _)
        · obtain ⟨p', vs', h1, h2, h3, h4, h5⟩ := st.ow j es e'
          exact ⟨p', vs', h1, h2, h3, fr _ _ (g.ow i j es p' e' h1) h4, h5.keep sub⟩
      nd := fun j k es fs q e1 e2 e3 e4 => by
        rcases getset e1 with ⟨rfl, e'⟩ | ⟨n1, e'⟩
        · exact absurd e'.symm (now _)
        · rcases getset e2 with ⟨rfl, e''⟩ | ⟨n2, e''⟩
          · exact absurd e''.symm (now _)
          · exact st.nd j k es fs q e' e'' e3 e4
      al := fun a ha => by
        by_cases h : R i a
        · exact al a h
        · obtain ⟨o, e, t⟩ := st.al a ha
          exact ⟨o, fr _ _ h e, t⟩
      bo := st.bo
      od := by
        refine ⟨R, { get := fun j d' e => ?_, le := g.le, dj := g.dj, ow := fun k j es p e1 e2 => ?_ }⟩
        · rcases getset e with ⟨rfl, e'⟩ | ⟨ne, e'⟩
          · rcases hx with h | ⟨d0, v, h, h1, h2⟩
            · rw [h] at e'; cases e'
            · rw [h] at e'
              cases e'
              exact ⟨v, h1, h2⟩
          · obtain ⟨v', k1, k2⟩ := g.get j d' e'
            exact ⟨v', k1, k2.keep (iW (fun a o ha ho => ⟨ha, fr _ _ (fun z => ne (g.dj j i a ha z)) ho⟩) ts)⟩
        · rcases getset e1 with ⟨rfl, e'⟩ | ⟨ne, e'⟩
          · exact absurd e'.symm (now _)
          · exact g.ow k j es p e' e2 }
  · obtain ⟨o, e, _⟩ := st.al a (st.bo a ha)
    rw [e]
    exact fr _ _ (fun z => (g.le i a z).2 ha) e
def Hs (env : En) (i : Nat) : En := match env[i]? with
  | some (.od d) => env.set i (.sh d)
  | _ => env
theorem Gi (d : Dt) (e : En) : Hs (.od d :: e) 0 = .sh d :: e := (rfl)
theorem Gh (d : Dt) (e : En) : Hs (.sh d :: e) 0 = .sh d :: e := (rfl)
theorem Gz (e : En) : Hs (.no :: e) 0 = .no :: e := (rfl)
theorem Lw (x : Sl) (e : En) (i : Nat) : Hs (x :: e) (i + 1) = x :: Hs e i := by
  unfold Hs
  rw [List.getElem?_cons_succ]
  cases h : e[i]? with
  | none => rfl
  | some y => cases y <;> rfl
end
end DL
namespace DL
open PySem PySem.Spec PyProof.Rows L2
end DL
namespace DL
open PySem PySem.Spec PyProof.Rows L2
section
variable {K : PySem.W.Frag} {C : Cf} {B O : Addr → Prop} {H H' : Hp} {σ : L2.St} {env : En}
theorem aH.dropLast : ∀ {vs : List V} {ds : List Dt}, aH K C H vs ds → aH K C H vs.dropLast ds.dropLast
  | _, _, .nil => .nil
  | _, _, .cons h .nil => .nil
  | _, _, .cons h (.cons h2 r) => .cons h (aH.dropLast (.cons h2 r))
def Nk (ns : List Str) (ps : List Addr) : List (Key × V) := List.zipWith (fun n p => (Sum.inr n, V.ref p)) ns ps
inductive Nr (H : Hp) (f : Str → List Str) : List Str → List Addr → Prop
  | nil : Nr H f [] []
  | cons {n : Str} {p : Addr} {ns : List Str} {ps : List Addr} : H p = some (.lst ((f n).map V.str)) → p ∉ ps → Nr H f ns ps → Nr H f (n :: ns) (p :: ps)
theorem Nr.at {f : Str → List Str} {ns : List Str} {ps : List Addr} (r : Nr H f ns ps) : ∀ p ∈ ps, ∃ n ∈ ns, H p = some (.lst ((f n).map V.str)) := by
  induction r with
  | nil => exact fun p h => by cases h
  | @cons n p ns ps h1 h2 _ ih =>
    intro q hq
    rcases List.mem_cons.mp hq with rfl | hq
    · exact ⟨n, List.mem_cons_self, h1⟩
    · obtain ⟨m, hm, e⟩ := ih q hq
      exact ⟨m, List.mem_cons_of_mem _ hm, e⟩
theorem Nr.keepA {f : Str → List Str} {ns : List Str} {ps : List Addr} (r : Nr H f ns ps) (h : ∀ p ∈ ps, ∀ o, H p = some o → H' p = some o) : Nr H' f ns ps := by
  induction r with
  | nil => exact .nil
  | @cons n p ns ps h1 h2 _ ih => exact .cons (h p List.mem_cons_self _ h1) h2 (ih fun q hq => h q (List.mem_cons_of_mem _ hq))
theorem Nr.keep {f : Str → List Str} {ns : List Str} {ps : List Addr} (r : Nr H f ns ps) (s : Same H H') : Nr H' f ns ps := r.keepA fun p _ o e => s p o e
theorem Nr.none {f : Str → List Str} {ns : List Str} {ps : List Addr} (r : Nr H f ns ps) {n : Str} (h : n ∉ ns) : valV (Nk ns ps) (.inr n) = none := by
  induction r with
  | nil => rfl
  | @cons m p ns ps h1 h2 _ ih =>
    have ne : ¬ (Sum.inr m : Key) = .inr n := fun z => h (by cases z; exact List.mem_cons_self)
    show valV ((Sum.inr m, V.ref p) :: Nk ns ps) _ = _
    rw [valV_neg ne]
    exact ih fun z => h (List.mem_cons_of_mem _ z)
theorem Nr.get {f : Str → List Str} {ns : List Str} {ps : List Addr} (r : Nr H f ns ps) {n : Str} (h : n ∈ ns) : ∃ p ∈ ps, valV (Nk ns ps) (.inr n) = some (.ref p) ∧ H p = some (.lst ((f n).map V.str)) := by
  induction r with
  | nil => cases h
  | @cons m p ns ps h1 h2 _ ih =>
    by_cases e : m = n
    · subst e
      exact ⟨p, List.mem_cons_self, valV_pos rfl, h1⟩
    · have ne : ¬ (Sum.inr m : Key) = .inr n := fun z => e (by cases z; rfl)
      obtain ⟨q, hq, e1, e2⟩ := ih ((List.mem_cons.mp h).resolve_left fun z => e z.symm)
      refine ⟨q, List.mem_cons_of_mem _ hq, ?_, e2⟩
      show valV ((Sum.inr m, V.ref p) :: Nk ns ps) _ = _
      rw [valV_neg ne]
      exact e1
theorem Nr.put {f f' : Str → List Str} {ns : List Str} {ps : List Addr} (r : Nr H f ns ps) {n : Str} {q : Addr} (nd : ns.Nodup) (h : valV (Nk ns ps) (.inr n) = some (.ref q)) (hf : ∀ m, m ≠ n → f' m = f m) : Nr (upd H q (.lst ((f' n).map V.str))) f' ns ps := by
  induction r with
  | nil => exact .nil
  | @cons m p ns ps h1 h2 r ih =>
    have nd2 := List.nodup_cons.mp nd
    by_cases e : m = n
    · subst e
      have : valV (Nk (m :: ns) (p :: ps)) (.inr m) = some (.ref p) := valV_pos rfl
      rw [this] at h
      cases h
      refine .cons upd_same h2 ?_
      have : ∀ {l ls}, Nr H f l ls → m ∉ l → (∀ x ∈ ls, x ∈ ps) → Nr (upd H q (.lst ((f' m).map V.str))) f' l ls := fun {l ls} r => by
        induction r with
        | nil => exact fun _ _ => .nil
        | @cons k x l ls g1 g2 _ ih2 =>
          intro hm hx
          refine .cons ?_ g2 (ih2 (fun z => hm (List.mem_cons_of_mem _ z)) fun y hy => hx y (List.mem_cons_of_mem _ hy))
          have xp : x ≠ q := fun z => h2 (by rw [← z]; exact hx x List.mem_cons_self)
          rw [upd_ne xp, g1, hf k fun z => hm (by rw [z]; exact List.mem_cons_self)]
      exact this r nd2.1 fun x hx => hx
    · have ne : ¬ (Sum.inr m : Key) = .inr n := fun z => e (by cases z; rfl)
      have h' : valV (Nk ns ps) (.inr n) = some (.ref q) := by
        have h : valV ((Sum.inr m, V.ref p) :: Nk ns ps) (.inr n) = some (.ref q) := h
        rw [valV_neg ne] at h
        exact h
      have hq : q ∈ ps := by
        by_cases hn : n ∈ ns
        · obtain ⟨q', hq', e1, _⟩ := r.get hn
          rw [e1] at h'
          cases h'
          exact hq'
        · rw [r.none hn] at h'; cases h'
      refine .cons ?_ h2 (ih nd2.2 h')
      rw [upd_ne fun z => h2 (by rw [z]; exact hq), h1, hf m e]
theorem Nr.snoc {f : Str → List Str} {ns : List Str} {ps : List Addr} (r : Nr H f ns ps) {n : Str} {p : Addr} (h1 : H p = some (.lst ((f n).map V.str))) (h2 : p ∉ ps) : Nr H f (ns ++ [n]) (ps ++ [p]) := by
  induction r with
  | nil => exact .cons h1 (by simp) .nil
  | @cons m q ns ps g1 g2 _ ih =>
    refine .cons g1 ?_ (ih fun z => h2 (List.mem_cons_of_mem _ z))
    intro z
    rcases List.mem_append.mp z with z | z
    · exact g2 z
    · rw [List.mem_singleton.mp z] at h2
      exact h2 List.mem_cons_self
theorem Nr.len {f : Str → List Str} {ns : List Str} {ps : List Addr} (r : Nr H f ns ps) : ns.length = ps.length := by
  induction r with
  | nil => rfl
  | cons _ _ _ ih => rw [List.length_cons, List.length_cons, ih]
def TU (f : Str → List Str) (ns : List Str) : List (Key × Dt) := ns.map fun n => (.inr n, .lst ((f n).map .str))
theorem Nr.rep {f : Str → List Str} {ns : List Str} {ps : List Addr} (r : Nr H f ns ps) (hO : ∀ p ∈ ps, ¬ O p) : jr K C (mask O H) (Nk ns ps) (TU f ns) := by
  induction r with
  | nil => exact .nil
  | @cons n p ns ps h1 h2 _ ih =>
    exact .cons (.lst (by rw [aZ (hO p List.mem_cons_self)]; exact h1) (Dl _)) (ih fun q hq => hO q (List.mem_cons_of_mem _ hq))
end
end DL
namespace DL
open PySem PySem.Spec PyProof.Rows L2
end DL
namespace DL
open PySem PySem.Spec PyProof.Rows L2
end DL
namespace DL
open PySem PySem.Spec PyProof.Rows L2
end DL
namespace DL
open PySem PySem.Spec PyProof.Rows L2
end DL
namespace L2
open PySem PySem.Spec PyProof.Rows
def OP : List V → Hp → VK → Prop := fun xs H Q => (∃ i, xs = [.int i] ∧ i.natAbs.log2 < 1920 ∧ Q (.str (toString i)) H) ∨ ∃ a, xs = [.str a] ∧ Q (.str a) H
section
variable {X : Cx}
theorem fJ : CallR X (.type "str") OP := by
  intro pins s σ H xs us Q I r h
  rcases h with h | h
  · exact call_str_int pins s σ H xs us Q I r h
  · exact SkE.call_str_str pins s σ H xs us Q I r h
end
end L2
namespace DL
open PySem PySem.Spec PyProof.Rows L2
section
variable {K : PySem.W.Frag} {C : Cf}
def qa : List Dt → Option Dt
  | [.int i] => if i.natAbs.log2 < 1920 then some (.str (toString i)) else none
  | [.str s] => some (.str s)
  | _ => none
theorem lI : Vc K C OP qa := fun O H xs ds d al ra e Q q => by
  cases ra with
  | nil => cases e
  | cons h r =>
    cases r with
    | cons _ _ => cases h <;> cases e
    | nil =>
      cases h with
      | @int i =>
        have e : (if i.natAbs.log2 < 1920 then some (Dt.str (toString i)) else none) = some d := e
        by_cases hi : i.natAbs.log2 < 1920
        · rw [if_pos hi] at e
          cases e
          exact .inl ⟨_, rfl, hi, q H _ (same_refl H) .str⟩
        · rw [if_neg hi] at e; cases e
      | str => cases e; exact .inr ⟨_, rfl, q H _ (same_refl H) .str⟩
      | _ => cases e
end
end DL
namespace DL
open PySem PySem.Spec PyProof.Rows L2
section
variable {K : PySem.W.Frag} {a b : Addr} {xs ys : List V}
theorem oB {n : Nat} (hn : n = min xs.length ys.length) : Walk (RZ.ItzT K a b) n (fun H => SqT K H a xs ∧ SqT K H b ys) (YPair (fun i => xs[i]?) (fun i => ys[i]?)) := by
  subst hn
  refine ⟨fun i _ hi q => ?_, fun _ q => ⟨xs, ys, q.1, q.2, by omega⟩, fun i H v H' _ q y => ?_⟩
  · have h1 : i < xs.length := by omega
    have h2 : i < ys.length := by omega
    exact ⟨xs, ys, xs[i], ys[i], q.1, q.2, by simp [h1], by simp [h2]⟩
  · obtain ⟨T, x, z, h1, h2, h3, h4, h5⟩ := y
    exact ⟨T, x, z, h1, h2, h3, h4 xs q.1, h5 ys q.2⟩
end
section
variable {K : PySem.W.Frag} {C : Cf} {w : World} {env : En} {ta te : TE}
def OC (tab : List (Str × List Str)) : Dt → Dt → Option (List Dt)
  | .tup xs, .str z => (atK tab z).map fun l => kg xs (l.map .str)
  | _, _ => none
def Hi (tab : List (Str × List Str)) (o k : Option Dt) : Option (List Dt) := o.bind fun x => k.bind fun y => OC tab x y
theorem DN {a : Addr} {tab : List (Str × List Str)} {o k : Option Dt} (hk : ∃ es n, KDict K w a es n) (hv : ∀ q ∈ tab, ∃ (u : Value) (t : Addr), PySem.W.nsIn K a q.1 = some (some u) ∧ RelV (.ref t) u ∧ ∀ H : Hp, SqT K H t (q.2.map V.str)) (ho : eu K C ta env o) (hkk : eu K C te env k) :
    TZ K C (RZ.iZipA K (tCons ta (tCons (tOp (rIxD K w) (tC (.ref a)) te) tNil))) env (Hi tab o k) := fun xs e B O H σ st R q => by
  unfold Hi at e
  cases eo : o with
  | none => rw [eo] at e; cases e
  | some x =>
    cases ek : k with
    | none => rw [eo, ek] at e; cases e
    | some y =>
      rw [eo, ek] at e
      have e : OC tab x y = some xs := e
      cases x with
      | tup ds =>
        cases y with
        | str z =>
          obtain ⟨l, hl, rfl⟩ := Option.map_eq_some_iff.mp e
          obtain ⟨u, t, hu, ru, ht⟩ := hv _ (qy hl)
          obtain ⟨es, n, kd⟩ := hk
          refine ho _ eo B O H σ st _ fun H1 v s1 r1 => ?_
          cases r1 with
          | @tup p vs _ h1 r =>
            refine hkk _ ek B O H1 σ (st.keep s1) _ fun H2 v2 s2 r2 => ?_
            cases r2
            refine ⟨a, z, .ref t, rfl, rfl, ⟨es, n, u, kd.at_, kd.lit, hu, ru⟩, ?_⟩
            have h2 := aQ s2 _ _ h1
            have r' := r.keep (aQ s2)
            refine ⟨p, t, vs, l.map V.str, rfl, .inr ⟨SqT.of (aG _ _ h2), ht H2, q H2 _ (aS s1 s2) (N4 (xs := kg ds (l.map .str)) (oB rfl) ?_ (fun H s => ⟨SqT.of (s _ _ h2), ht H⟩) fun i d e => ?_)⟩⟩
            · rw [r'.len, Dh, List.length_map, List.length_map]
            · obtain ⟨x, y, hx, hy, rfl⟩ := DB e
              refine ⟨_, _, rfl, fun z hz => ?_, fun z hz => ?_⟩
              · obtain ⟨v', e2, r2⟩ := r'.get hx
                rw [hz] at e2
                cases e2
                exact r2
              · rw [List.getElem?_map] at hy hz
                cases el : l[i]? with
                | none => rw [el] at hz; cases hz
                | some c =>
                  rw [el] at hy hz
                  cases hy
                  cases hz
                  exact .str
        | _ => cases e
      | _ => cases e
end
end DL
namespace DY
open PySem PySem.Spec PyProof.Rows L2 DL
abbrev j0 : Stmt := ak 67
abbrev pL : List Str := ["day"]
theorem AJ : FnScope pL ["day"] (defScope j0) := ⟨rfl, rfl, rfl, by decide +kernel, rfl, by decide +kernel, by decide +kernel⟩
abbrev gp : Stmt := ak 68
abbrev jK : List Str := ["deed", "thing", "kind"]
theorem fH : FnScope jK ["deed"] (defScope gp) := ⟨rfl, rfl, rfl, by decide +kernel, rfl, by decide +kernel, by decide +kernel⟩
abbrev iw : Stmt := ak 69
abbrev kU : List Str := ["deed", "thing", "kind"]
theorem gM : FnScope kU ["deed"] (defScope iw) := ⟨rfl, rfl, rfl, by decide +kernel, rfl, by decide +kernel, by decide +kernel⟩
abbrev iG : Stmt := ak 70
abbrev kP : List Str := ["day", "deed"]
theorem ud : FnScope kP ["day", "deed"] (defScope iG) := ⟨rfl, rfl, rfl, by decide +kernel, rfl, by decide +kernel, by decide +kernel⟩
abbrev jy : Stmt := ak 74
abbrev lJ : List Str := ["deed", "thing"]
theorem j5 : FnScope lJ ["deed"] (defScope jy) := ⟨rfl, rfl, rfl, by decide +kernel, rfl, by decide +kernel, by decide +kernel⟩
abbrev iB : Stmt := ak 76
abbrev lg : List Str := ["number", "day", "deed"]
theorem sU : FnScope lg ["number", "day", "deed"] (defScope iB) := ⟨rfl, rfl, rfl, by decide +kernel, rfl, by decide +kernel, by decide +kernel⟩
abbrev cj : Stmt := inClass (ak 71) 0
abbrev nM : List Str := ["self"]
theorem mP : FnScope nM ["self"] (defScope cj) := ⟨rfl, rfl, rfl, by decide +kernel, rfl, by decide +kernel, by decide +kernel⟩
abbrev iI : Stmt := inClass (ak 71) 1
abbrev vq : List Str := ["self", "day", "deed", "number"]
theorem j4 : FnScope vq ["self", "day", "deed"] (defScope iI) := ⟨rfl, rfl, rfl, by decide +kernel, rfl, by decide +kernel, by decide +kernel⟩
abbrev gI : Stmt := inClass (ak 71) 2
abbrev uS : List Str := ["self", "number"]
theorem qj : FnScope uS ["self", "number"] (defScope gI) := ⟨rfl, rfl, rfl, by decide +kernel, rfl, by decide +kernel, by decide +kernel⟩
abbrev gm : Stmt := inClass (ak 71) 3
abbrev qf : List Str := ["self", "number", "day", "deed", "old"]
theorem iQ : FnScope qf ["self", "number", "day", "deed"] (defScope gm) := ⟨rfl, rfl, rfl, by decide +kernel, rfl, by decide +kernel, by decide +kernel⟩
abbrev jg : Stmt := inClass (ak 71) 4
abbrev mq : List Str := ["self", "number", "old", "new"]
theorem fM : FnScope mq ["self"] (defScope jg) := ⟨rfl, rfl, rfl, by decide +kernel, rfl, by decide +kernel, by decide +kernel⟩
abbrev kO : Stmt := inClass (ak 71) 5
abbrev gy : Stmt := inClass (ak 71) 6
abbrev mh : List Str := ["self", "number"]
theorem iC : FnScope mh ["self"] (defScope gy) := ⟨rfl, rfl, rfl, by decide +kernel, rfl, by decide +kernel, by decide +kernel⟩
abbrev g7 : Stmt := inClass (ak 71) 7
abbrev uh : List Str := ["self"]
theorem qq : FnScope uh ["self"] (defScope g7) := ⟨rfl, rfl, rfl, by decide +kernel, rfl, by decide +kernel, by decide +kernel⟩
abbrev iF : Stmt := inClass (ak 71) 11
abbrev vz : List Str := ["self", "number"]
theorem sy : FnScope vz ["self", "number"] (defScope iF) := ⟨rfl, rfl, rfl, by decide +kernel, rfl, by decide +kernel, by decide +kernel⟩
abbrev jS : Stmt := inClass (ak 71) 12
abbrev DT : List Str := ["self", "number", "entry"]
theorem Au : FnScope DT ["self", "number", "entry"] (defScope jS) := ⟨rfl, rfl, rfl, by decide +kernel, rfl, by decide +kernel, by decide +kernel⟩
abbrev jk : Stmt := inClass (ak 71) 13
abbrev lQ : List Str := ["self", "number", "old", "new"]
theorem vH : FnScope lQ ["self", "number", "old", "new"] (defScope jk) := ⟨rfl, rfl, rfl, by decide +kernel, rfl, by decide +kernel, by decide +kernel⟩
abbrev gF : Stmt := inClass (ak 71) 14
abbrev rm : List Str := ["self", "number", "old", "new"]
theorem ql : FnScope rm ["self", "number", "old", "new"] (defScope gF) := ⟨rfl, rfl, rfl, by decide +kernel, rfl, by decide +kernel, by decide +kernel⟩
structure TB (w : World) (K : PySem.W.Frag) (mg : Str → Option Value) where
  y : T4 w K mg
  DO : mg "all" = none
  su : mg "bool" = none
  CK : mg "int" = none
  d9 : mg "isinstance" = none
  jd : mg "len" = none
  l7 : mg "sorted" = none
  mR : mg "str" = none
  qC : mg "tuple" = none
  Ge : mg "zip" = none
  zq : ∃ t, mg "BEAM" = some (.str "" t)
  pH : ∃ t, mg "BEAM_WORD" = some (.str "-" t)
  eV : ∃ t, mg "GREATEST_NUMBER" = some (.int 9999999999 t)
  sd : ∃ t, mg "LAST_DAY" = some (.int 9999 t)
  gB : ∃ t, mg "LETTERS" = some (.str "abcdefghijklmnopqrstuvwxyz" t)
  cP : ∃ t, mg "LONGEST_NAME" = some (.int 8 t)
  bM : Addr
  cI : mg "DEED_THINGS" = some (.ref bM)
  cH : ∃ es n, KDict K w bM es n
  iH : ∀ q ∈ ([("trestle", 4), ("board", 5), ("away", 1), ("along", 2), ("sack", 4), ("move", 3), ("lift", 1), ("cord", 4), ("cut", 1)] : List (Str × Nat)), ∃ (u : Value) (t : Addr) (xs : List V), PySem.W.nsIn K bM q.1 = some (some u) ∧ RelV (.ref t) u ∧ xs.length = q.2 ∧ ∀ H : Hp, SqT K H t xs
  iM : ∀ q ∈ ([("trestle", ["name", "number", "number", "number"]), ("board", ["name", "number", "number", "number", "number"]), ("away", ["name"]), ("along", ["name", "number"]), ("sack", ["name", "name", "number", "number"]), ("move", ["name", "name", "number"]), ("lift", ["name"]), ("cord", ["name", "upper", "name", "number"]), ("cut", ["name"])] : List (Str × List Str)), ∃ (u : Value) (t : Addr), PySem.W.nsIn K bM q.1 = some (some u) ∧ RelV (.ref t) u ∧ ∀ H : Hp, SqT K H t (q.2.map V.str)
  aU : Addr
  az : Cls K aU
  GP : mg "Diary" = some (.ref aU)
  aW : NoAttr K aU "entries"
  bH : NoAttr K aU "following"
  cW : NoAttr K aU "changes"
  bq : NoAttr K aU "changes_taken_back"
  aV : bZ K mg "is_number" g8 ["value"]
  bW : bZ K mg "check_form" gz ["deed"]
  dX : bZ K mg "check_day" j0 ["day"]
  bT : bZ K mg "check_numbers" gp ["deed"]
  cM : bZ K mg "check_names" iw ["deed"]
  bx : bZ K mg "check_entry" iG ["day", "deed"]
  eK : bZ K mg "words_of" jy ["deed"]
  cJ : bZ K mg "written_row" iB ["number", "day", "deed"]
  bX : jL K aU "enter" "Diary.enter" iI ["self", "day", "deed"]
  cQ : jL K aU "strike" "Diary.strike" gI ["self", "number"]
  cz : jL K aU "correct" "Diary.correct" gm ["self", "number", "day", "deed"]
  d7 : jL K aU "back" "Diary.back" jg ["self"]
  vv : jL K aU "again" "Diary.again" kO ["self"]
  cE : jL K aU "rows" "Diary.rows" gy ["self"]
  cV : jL K aU "coming" "Diary.coming" g7 ["self"]
  bY : jL K aU "entry" "Diary.entry" iF ["self", "number"]
  cZ : jL K aU "put" "Diary.put" jS ["self", "number", "entry"]
  d8 : jL K aU "make" "Diary.make" jk ["self", "number", "old", "new"]
  aX : jL K aU "change" "Diary.change" gF ["self", "number", "old", "new"]
  qD : Addr
  mO : FuncData
  Cc : Fun K "__init__" "Diary.__init__" cj qD mO
  C8 : Binds K mO ["self"] []
  CT : Mk K aU qD
abbrev TB.k {w : World} {K : PySem.W.Frag} {mg : Str → Option Value} (T : TB w K mg) : Cl := ⟨T.y.CY, fun _ => T.aU⟩
abbrev TB.cX {w : World} {K : PySem.W.Frag} {mg : Str → Option Value} (T : TB w K mg) : bZ K mg "is_name" iN ["text"] := T.y.cX
section
variable {P : Program} {w : World} {K : PySem.W.Frag} {mg : Str → Option Value} {base : Heap}
noncomputable def ig (e : En) : Option Rs :=
    ((pV ((ao e 0).bind (ur "int")) (wC ((ao e 0).bind (ur "bool")))).map Rs.rt)
noncomputable def dR (ds : List Dt) : Option Dt := (ig (o4 1 ds)).bind gj
theorem iK (T : TB w K mg) : FnOk P w K mg base CX0 1 T.aV.a T.aV.d ["value"] (vj K T.k 1 dR) := by
  refine T.aV.F.ok yQ (fun vs H Q E h => d_len h) (fun cdv A outer s H vs Q E hr h => ?_)
  have hu := hu_of hr
  refine ⟨_, pss_one (ps_ret (pe_and (pe_callB (r := rIsi K) call_isi (by rfl) T.d9 (by decide +kernel) (pa_cons (pv 0) (pa_cons (pe_bltn (v := .ty "int") (by rfl) T.CK (by decide +kernel) rfl) pa_nil))) (pe_one (pe_not (pe_callB (r := rIsi K) call_isi (by rfl) T.d9 (by decide +kernel) (pa_cons (pv 0) (pa_cons (pe_bltn (v := .ty "bool") (by rfl) T.su (by decide +kernel) rfl) pa_nil))))))), ?_⟩
  exact gU (N := pF) (b := ig) (fun lk e => (dO (GF (Gw "int" (aa 0)) (Ni (Gw "bool" (aa 0)))))) h
noncomputable def kr : List Dt → Option Dt
  | [.str s] => if s.length ≤ 1000 then some (.bl (isName s)) else none
  | _ => none
theorem Dr (T : TB w K mg) : FnOk P w K mg base CX0 1 T.cX.a T.cX.d ["text"] (vj K T.k 1 kr) := (FE T.y.toT0).imp fun vs H Q E h => by
  obtain ⟨lk, O, ds, d, al, hn, r, e, q⟩ := h
  unfold kr at e
  split at e
  · next s =>
    split at e
    · next hl =>
      cases e
      cases r with
      | cons r1 r =>
        cases r1
        cases r
        exact ⟨s, rfl, hl, fun H' s' => q H' _ s' .bl⟩
    · cases e
  · cases e
noncomputable def jm (e : En) : Option Rs :=
    (CA (Mv ((o2 (lK false) ((ai (ao e 0) (some [])).bind qh) (some (Dt.int 0))).bind bD) (Mv ((o1 (vX ([("trestle", 4), ("board", 5), ("away", 1), ("along", 2), ("sack", 4), ("move", 3), ("lift", 1), ("cord", 4), ("cut", 1)].map (·.1))) (o2 cY (ao e 0) (some (Dt.int 0)))).bind bD) ((o2 (lK true) ((ai (ao e 0) (some [])).bind qh) (o2 cA (some (Dt.int 1)) (o1 (wN [("trestle", 4), ("board", 5), ("away", 1), ("along", 2), ("sack", 4), ("move", 3), ("lift", 1), ("cord", 4), ("cut", 1)]) (o2 cY (ao e 0) (some (Dt.int 0)))))).bind bD))) (none : Option Rs) (some (Rs.nx e)))
noncomputable def gA (ds : List Dt) : Option Dt := (jm (o4 1 ds)).bind gj
theorem qS (T : TB w K mg) : FnOk P w K mg base CX0 1 T.bW.a T.bW.d ["deed"] (vj K T.k 1 gA) := by
  obtain ⟨es_DEED_THINGS, n_DEED_THINGS, kd_DEED_THINGS⟩ := T.cH
  refine T.bW.F.ok vL (fun vs H Q E h => d_len h) (fun cdv A outer s H vs Q E hr h => ?_)
  have hu := hu_of hr
  refine ⟨_, pss_one (ps_if (PW.pt (pw_or (pt_cmpR (r := rEqD K) (op_eqD hr.units) (pe_callB (r := mQ K) fK (by rfl) T.jd (by decide +kernel) (pa_cons (pv 0) pa_nil)) pe_int (nomark _)) (pw_or (pt_cmpR (op_notIn_kd kd_DEED_THINGS) (pe_ix (r := bP K) (aF hu) (pv 0) pe_int (fun _ _ => rfl)) (pe_glob (v := .ref T.bM) rfl T.cI rfl) (by rfl)) (pw_or1 (pt_cmpR (r := rNeD K) (op_neD hr.units) (pe_callB (r := mQ K) fK (by rfl) T.jd (by decide +kernel) (pa_cons (pv 0) pa_nil)) (pe_op (r := bO K) aK pe_int (pe_callB call_len_seq (by rfl) T.jd (by decide +kernel) (pa_cons (pe_ix (r := rIxD K w) ix_kdict (pe_glob (v := .ref T.bM) rfl T.cI rfl) (pe_ix (r := bP K) (aF hu) (pv 0) pe_int (fun _ _ => rfl)) (fun _ _ => rfl)) pa_nil))) (nomark _)))))) pss_never pss_nil), ?_⟩
  exact gU (N := mw) (b := jm) (fun lk e => (gH (El (bg (aj l9 (fc lF (af (aa 0) au)) (ah 0))) (El (bg (Lc T.iH (aj bf (aa 0) (ah 0)))) (bg (aj MP (fc lF (af (aa 0) au)) (aj bu (ah 1) (LO T.cH T.iH (aj bf (aa 0) (ah 0)))))))) kE dW)) h
noncomputable def jR (e : En) : Option Rs :=
    (CA (Mv ((((ai (ao e 0) (some [])).bind (ar 1 dR)).bind bD).map (!·)) (((o7 (BX fun i j => decide (i ≤ j)) (BX fun i j => decide (i ≤ j)) (some (Dt.int 1)) (ao e 0) (some (Dt.int 9999))).bind bD).map (!·))) (none : Option Rs) (some (Rs.nx e)))
noncomputable def g9 (ds : List Dt) : Option Dt := (jR (o4 1 ds)).bind gj
theorem Bh (T : TB w K mg) : FnOk P w K mg base CX0 2 T.dX.a T.dX.d ["day"] (vj K T.k 1 g9) := by
  have f7 := iK (P := P) (w := w) (base := base) T
  refine T.dX.F.ok AJ (fun vs H Q E h => d_len h) (fun cdv A outer s H vs Q E hr h => ?_)
  have hu := hu_of hr
  refine ⟨_, pss_one (ps_if (PW.pt (pw_or (pt_not (pt_val (pe_call f7 (hr.mono (by decide)) (by rfl) T.aV.g T.aV.F.kp T.aV.b .nil pass0 (pa_cons (pv 0) pa_nil)))) (pw_or1 (pt_not (pt_chain op_le op_le pe_int (pv 0) (pe_glob (v := .int 9999) rfl T.sd.choose_spec ⟨_, rfl⟩)))))) pss_never pss_nil), ?_⟩
  exact gU (N := pL) (b := jR) (fun lk e => (gH (El (kF (Cm (aP (af (aa 0) au)))) (kF (bg (xh nW nW (ah 1) (aa 0) (ah 9999))))) kE dW)) h
noncomputable def cD (e : En) : Option Rs :=
    (CA (j7 ((o2 (lK false) (ao e 2) (some (Dt.str "number"))).bind bD) ((j7 (((ai (ao e 1) (some [])).bind (ar 1 dR)).bind bD) ((o7 (BX fun i j => decide (i ≤ j)) (BX fun i j => decide (i ≤ j)) (o1 RB (some (Dt.int 9999999999))) (ao e 1) (some (Dt.int 9999999999))).bind bD)).map (!·))) (none : Option Rs) (some (Rs.nx e)))
noncomputable def gh (e : En) : Option Rs :=
    ((Hi [("trestle", ["name", "number", "number", "number"]), ("board", ["name", "number", "number", "number", "number"]), ("away", ["name"]), ("along", ["name", "number"]), ("sack", ["name", "name", "number", "number"]), ("move", ["name", "name", "number"]), ("lift", ["name"]), ("cord", ["name", "upper", "name", "number"]), ("cut", ["name"])] (HM (ao e 0) ((some (Dt.int 1)).bind iD) (some none)) (o2 cY (ao e 0) (some (Dt.int 0)))).bind fun xs => bz (jM 2 (bw (fName 1) (bw (fName 2) kM))) cD xs e)
noncomputable def eH (ds : List Dt) : Option Dt := (gh (o4 3 ds)).bind gj
theorem oA (T : TB w K mg) : FnOk P w K mg base CX0 2 T.bT.a T.bT.d ["deed"] (vj K T.k 1 eH) := by
  have f7 := iK (P := P) (w := w) (base := base) T
  obtain ⟨es_DEED_THINGS, n_DEED_THINGS, kd_DEED_THINGS⟩ := T.cH
  refine T.bT.F.ok fH (fun vs H Q E h => d_len h) (fun cdv A outer s H vs Q E hr h => ?_)
  have hu := hu_of hr
  refine ⟨_, pss_one (ps_for PassesOwn.never rfl (RZ.pi_zipA (by rfl) T.Ge (pa_cons (pe_slice (r := gQ K) jf (pv 0) (po_some pe_int) po_none) (pa_cons (pe_ix (r := rIxD K w) ix_kdict (pe_glob (v := .ref T.bM) rfl T.cI rfl) (pe_ix (r := bP K) (aF hu) (pv 0) pe_int (fun _ _ => rfl)) (fun _ _ => rfl)) pa_nil))) (pg_tup rfl (pgs_cons (pg_name (i := 1) fH.nd rfl (Or.inl rfl)) (pgs_cons (pg_name (i := 2) fH.nd rfl (Or.inl rfl)) pgs_nil))) (pss_one (ps_if (PW.pt (pw_and (pt_cmpR (r := rEqD K) (op_eqD hr.units) (pv 2) pe_str (nomark _)) (pw_and1 (pt_not (PW.pt (pw_and (pt_val (pe_call f7 (hr.mono (by decide)) (by rfl) T.aV.g T.aV.F.kp T.aV.b .nil pass0 (pa_cons (pv 1) pa_nil))) (pw_and1 (pt_chain op_le op_le (pe_un un_neg (pe_glob (v := .int 9999999999) rfl T.eV.choose_spec ⟨_, rfl⟩)) (pv 1) (pe_glob (v := .int 9999999999) rfl T.eV.choose_spec ⟨_, rfl⟩))))))))) pss_never pss_nil))), ?_⟩
  exact gU (N := jK) (b := gh) (fun lk e => (fW (DN T.cH T.iM (jA (aa 0) (dU (ah 1)) gX) (aj bf (aa 0) (ah 0))) (kJ (bB (fun _ _ _ _ _ => trivial) (ay 1) (bB (fun _ _ _ _ _ => trivial) (ay 2) (iZ fun _ => trivial)))) (fun e => (gH (kK (bg (aj l9 (aa 2) (aM "number"))) (kF (kK (Cm (aP (af (aa 1) au))) (bg (xh nW nW (Rj Tj (ah 9999999999)) (aa 1) (ah 9999999999)))))) kE dW)))) h
noncomputable def dF (e : En) : Option Rs :=
    (aN (CA (j7 ((o2 (lK false) (ao e 2) (some (Dt.str "upper"))).bind bD) ((o2 (lK false) (ao e 1) (some (Dt.str ""))).bind bD)) (some (Rs.ct e)) (some (Rs.nx e))) fun e =>
    (CA (j7 ((o2 (lK true) (ao e 2) (some (Dt.str "number"))).bind bD) ((((ai (ao e 1) (some [])).bind (ar 1 kr)).bind bD).map (!·))) (none : Option Rs) (some (Rs.nx e))))
noncomputable def iL (e : En) : Option Rs :=
    ((Hi [("trestle", ["name", "number", "number", "number"]), ("board", ["name", "number", "number", "number", "number"]), ("away", ["name"]), ("along", ["name", "number"]), ("sack", ["name", "name", "number", "number"]), ("move", ["name", "name", "number"]), ("lift", ["name"]), ("cord", ["name", "upper", "name", "number"]), ("cut", ["name"])] (HM (ao e 0) ((some (Dt.int 1)).bind iD) (some none)) (o2 cY (ao e 0) (some (Dt.int 0)))).bind fun xs => bz (jM 2 (bw (fName 1) (bw (fName 2) kM))) dF xs e)
noncomputable def fU (ds : List Dt) : Option Dt := (iL (o4 3 ds)).bind gj
theorem t7 (T : TB w K mg) : FnOk P w K mg base CX0 2 T.cM.a T.cM.d ["deed"] (vj K T.k 1 fU) := by
  have Hw := Dr (P := P) (w := w) (base := base) T
  obtain ⟨es_DEED_THINGS, n_DEED_THINGS, kd_DEED_THINGS⟩ := T.cH
  refine T.cM.F.ok gM (fun vs H Q E h => d_len h) (fun cdv A outer s H vs Q E hr h => ?_)
  have hu := hu_of hr
  refine ⟨_, pss_one (ps_for PassesOwn.never rfl (RZ.pi_zipA (by rfl) T.Ge (pa_cons (pe_slice (r := gQ K) jf (pv 0) (po_some pe_int) po_none) (pa_cons (pe_ix (r := rIxD K w) ix_kdict (pe_glob (v := .ref T.bM) rfl T.cI rfl) (pe_ix (r := bP K) (aF hu) (pv 0) pe_int (fun _ _ => rfl)) (fun _ _ => rfl)) pa_nil))) (pg_tup rfl (pgs_cons (pg_name (i := 1) gM.nd rfl (Or.inl rfl)) (pgs_cons (pg_name (i := 2) gM.nd rfl (Or.inl rfl)) pgs_nil))) (pss_cons (ps_if (PW.pt (pw_and (pt_cmpR (r := rEqD K) (op_eqD hr.units) (pv 2) pe_str (nomark _)) (pw_and1 (pt_cmpR (r := rEqD K) (op_eqD hr.units) (pv 1) (pe_glob (v := .str "") rfl T.zq.choose_spec ⟨_, rfl⟩) (nomark _))))) (pss_one ps_continue) pss_nil)
      (pss_one (ps_if (PW.pt (pw_and (pt_cmpR (r := rNeD K) (op_neD hr.units) (pv 2) pe_str (nomark _)) (pw_and1 (pt_not (pt_val (pe_call Hw (hr.mono (by decide)) (by rfl) T.cX.g T.cX.F.kp T.cX.b .nil pass0 (pa_cons (pv 1) pa_nil))))))) pss_never pss_nil)))), ?_⟩
  exact gU (N := kU) (b := iL) (fun lk e => (fW (DN T.cH T.iM (jA (aa 0) (dU (ah 1)) gX) (aj bf (aa 0) (ah 0))) (kJ (bB (fun _ _ _ _ _ => trivial) (ay 1) (bB (fun _ _ _ _ _ => trivial) (ay 2) (iZ fun _ => trivial)))) (fun e => (av (gH (kK (bg (aj l9 (aa 2) (aM "upper"))) (bg (aj l9 (aa 1) (aM "")))) J4 dW) fun e => (gH (kK (bg (aj MP (aa 2) (aM "number"))) (kF (Cm (aP (af (aa 1) au))))) kE dW))))) h
noncomputable def iA (e : En) : Option Rs :=
    (aN (((ai (ao e 0) (some [])).bind (ar 1 g9)).map fun _ => Rs.nx e) fun e =>
    (aN (((ai (ao e 1) (some [])).bind (ar 1 gA)).map fun _ => Rs.nx e) fun e =>
    (aN (((ai (ao e 1) (some [])).bind (ar 1 eH)).map fun _ => Rs.nx e) fun e =>
    (((ai (ao e 1) (some [])).bind (ar 1 fU)).map fun _ => Rs.nx e))))
noncomputable def aD (ds : List Dt) : Option Dt := (iA (o4 2 ds)).bind gj
theorem j8 (T : TB w K mg) : FnOk P w K mg base CX0 3 T.bx.a T.bx.d ["day", "deed"] (vj K T.k 2 aD) := by
  have DK := Bh (P := P) (w := w) (base := base) T
  have BF := qS (P := P) (w := w) (base := base) T
  have vE := t7 (P := P) (w := w) (base := base) T
  have qo := oA (P := P) (w := w) (base := base) T
  refine T.bx.F.ok ud (fun vs H Q E h => d_len h) (fun cdv A outer s H vs Q E hr h => ?_)
  have hu := hu_of hr
  refine ⟨_, pss_cons (ps_expr (pe_call DK (hr.mono (by decide)) (by rfl) T.dX.g T.dX.F.kp T.dX.b .nil pass0 (pa_cons (pv 0) pa_nil)))
      (pss_cons (ps_expr (pe_call BF (hr.mono (by decide)) (by rfl) T.bW.g T.bW.F.kp T.bW.b .nil pass0 (pa_cons (pv 1) pa_nil)))
      (pss_cons (ps_expr (pe_call qo (hr.mono (by decide)) (by rfl) T.bT.g T.bT.F.kp T.bT.b .nil pass0 (pa_cons (pv 1) pa_nil)))
      (pss_one (ps_expr (pe_call vE (hr.mono (by decide)) (by rfl) T.cM.g T.cM.F.kp T.cM.b .nil pass0 (pa_cons (pv 1) pa_nil)))))), ?_⟩
  exact gU (N := kP) (b := iA) (fun lk e => (av (lY (aP (af (aa 0) au))) fun e => (av (lY (aP (af (aa 1) au))) fun e => (av (lY (aP (af (aa 1) au))) fun e => (lY (aP (af (aa 1) au))))))) h
noncomputable def lN (e : En) : Option Rs :=
    (((kT ((ao e 0).bind sD) (fD (fName 1) (fun e => (some true)) (fun e => (Qo ((o2 (lK false) (ao e 1) (some (Dt.str ""))).bind bD) (some (Dt.str "-")) ((ai (ao e 1) (some [])).bind qa))) (fZ e [1]))).map Dt.lst).map Rs.rt)
noncomputable def jj (ds : List Dt) : Option Dt := (lN (o4 2 ds)).bind gj
theorem B7 (T : TB w K mg) : FnOk P w K mg base CX0 1 T.eK.a T.eK.d ["deed"] (vj K T.k 1 jj) := by
  refine T.eK.F.ok j5 (fun vs H Q E h => d_len h) (fun cdv A outer s H vs Q E hr h => ?_)
  have hu := hu_of hr
  refine ⟨_, pss_one (ps_ret (pe_lc (own := [("thing", 1)]) (g := (gName 1)) (tt := tYes) (by rfl) j5.nd (lM (pv 0)) (blkOk_by (N := lJ) (sc := defScope jy) (by decide +kernel)) (fun _ _ _ _ _ => (pg_name (i := 1) j5.nd rfl (Or.inl rfl))) (fun _ _ _ _ _ => pts_nil) (fun _ _ _ _ _ => (pe_ifExp (pt_cmpR (r := rEqD K) (op_eqD hr.units) (pv 1) pe_str (nomark _)) (pe_glob (v := .str "-") rfl T.pH.choose_spec ⟨_, rfl⟩) (pe_callTy fJ (by rfl) T.mR (by decide +kernel) (pa_cons (pv 1) pa_nil)))))), ?_⟩
  exact gU (N := lJ) (b := lN) (fun lk e => (dO (vn.d (qZ (vs := [1]) (jv (aa 0)) (fF 1 (by decide)) (fun e => lX) (fun e => (Jk (bg (aj l9 (aa 1) (aM ""))) (aM "-") (fc lI (af (aa 1) au)))))))) h
noncomputable def iJ (e : En) : Option Rs :=
    ((o2 cA (gu (some (Dt.str " ")) (o2 cA (((ai ((ai (ao e 0) (some [])).bind qa) (ai ((ai (ao e 1) (some [])).bind qa) (some []))).bind vm).map Dt.lst) ((ai (ao e 2) (some [])).bind (ar 1 jj)))) (some (Dt.str "\n"))).map Rs.rt)
noncomputable def fP (ds : List Dt) : Option Dt := (iJ (o4 3 ds)).bind gj
theorem rq (T : TB w K mg) : FnOk P w K mg base CX0 2 T.cJ.a T.cJ.d ["number", "day", "deed"] (vj K T.k 3 fP) := by
  have EJ := B7 (P := P) (w := w) (base := base) T
  refine T.cJ.F.ok sU (fun vs H Q E h => d_len h) (fun cdv A outer s H vs Q E hr h => ?_)
  have hu := hu_of hr
  refine ⟨_, pss_one (ps_ret (pe_op (r := bO K) aK (show PE _ _ (tM1 (rJoin K) _ _) from pe_join pe_str (pe_op (r := bO K) aK (pe_lst (pa_cons (pe_callTy fJ (by rfl) T.mR (by decide +kernel) (pa_cons (pv 0) pa_nil)) (pa_cons (pe_callTy fJ (by rfl) T.mR (by decide +kernel) (pa_cons (pv 1) pa_nil)) pa_nil))) (pe_call EJ (hr.mono (by decide)) (by rfl) T.eK.g T.eK.F.kp T.eK.b .nil pass0 (pa_cons (pv 2) pa_nil)))) pe_str)), ?_⟩
  exact gU (N := lg) (b := iJ) (fun lk e => (dO (aj bu (iT (aM " ") (aj bu (vn.d (dJ (af (fc lI (af (aa 0) au)) (af (fc lI (af (aa 1) au)) au)))) (aP (af (aa 2) au)))) (aM "\n")))) h
end
end DY
namespace DL
open PySem PySem.Spec PyProof.Rows L2
theorem Gk (e : En) (k : En → Option Rs) : aN (some (.nx e)) k = k e := (rfl)
theorem Gv (d : Dt) (k : En → Option Rs) : aN (some (.rt d)) k = some (.rt d) := (rfl)
theorem Oc (x : Bool) (a b : Option Rs) : CA (some x) a b = if x = true then a else b := (rfl)
theorem LW (d : Dt) (i : Nat) (e : En) : eU (some d) (fName i) e = some (.nx (e.set i (.sh d))) := (rfl)
theorem Me (d : Dt) (n : Nat) (g : List Dt → En → Option En) (e : En) : eU (some d) (jM n g) e = (jM n g d e).map .nx := (rfl)
theorem IW (n : Nat) (g : List Dt → En → Option En) (ds : List Dt) (e : En) : jM n g (.tup ds) e = if ds.length = n then g ds e else none := (rfl)
theorem G2 (f : Dt → En → Option En) (g : List Dt → En → Option En) (d : Dt) (ds : List Dt) (e : En) : bw f g (d :: ds) e = (f d e).bind fun e1 => g ds e1 := (rfl)
theorem Ln (e : En) : kM [] e = some e := (rfl)
theorem Gj (i : Nat) (d : Dt) (e : En) : fName i d e = some (e.set i (.sh d)) := (rfl)
theorem Jx (i j : Nat) (x y : Dt) (e : En) : Qw i j (some [x, y]) e = some (.nx ((e.set i (.sh x)).set j (.sh y))) := (rfl)
theorem UO (f : Dt → Dt → Option Dt) (a b : Dt) : o2 f (some a) (some b) = f a b := (rfl)
theorem Ug (f : Dt → Option Dt) (a : Dt) : o1 f (some a) = f a := (rfl)
theorem GG (a : Dt) (l : List Dt) : ai (some a) (some l) = some (a :: l) := (rfl)
theorem Od (a : Dt) (l h : Option Int) : HM (some a) (some l) (some h) = HL a l h := (rfl)
theorem OM (x : Bool) (a b : Option Dt) : Qo (some x) a b = if x = true then a else b := (rfl)
theorem GZ (x : Bool) (b : Option Bool) : j7 (some x) b = if x = true then b else some false := (rfl)
theorem JE (x : Bool) (b : Option Bool) : Mv (some x) b = if x = true then some true else b := (rfl)
theorem G3 (x : Bool) (b : Option Dt) : pV (some (.bl x)) b = if x = true then b else some (.bl false) := (rfl)
theorem Lj (x : Bool) (b : Option Dt) : U6 (some (.bl x)) b = if x = true then some (.bl true) else b := (rfl)
theorem Gm (x : Bool) : wC (some (.bl x)) = some (.bl (!x)) := (rfl)
theorem Oj (e : En) (f : En → Option Dt) : Vb e f = (f e).bind Tu := (rfl)
theorem OV (e : En) (f : En → Option Bool) : ND e f = f e := (rfl)
theorem OJ (e : En) (f : En → Option Rs) : MW e f = f e := (rfl)
theorem OA (i : Int) : Tu (.int i) = some (.int i) := (rfl)
theorem OQ (i : Bool) : Tu (.bl i) = some (.bl i) := (rfl)
theorem Oi (i : Str) : Tu (.str i) = some (.str i) := (rfl)
theorem Uw (x : Bool) : bD (.bl x) = some x := (rfl)
theorem UG (i : Int) : iD (.int i) = some (some i) := (rfl)
theorem UI (xs : List Dt) : sD (.lst xs) = some xs := (rfl)
theorem UA (xs : List Dt) : sD (.tup xs) = some xs := (rfl)
theorem UM (xs : List Dt) : lD (.lst xs) = some xs := (rfl)
theorem TJ (Y : DY.Yd) : yD (.yard Y) = some Y := (rfl)
theorem GB (d : Dt) : gj (.rt d) = some d := (rfl)
theorem G4 (e : En) : gj (.nx e) = some .non := (rfl)
theorem Lf (i j : Int) : cA (.int i) (.int j) = some (.int (i + j)) := (rfl)
theorem MO (i j : Int) : Du (.int i) (.int j) = some (.int (i - j)) := (rfl)
theorem Ma (i : Int) : RB (.int i) = some (.int (-i)) := (rfl)
theorem MK (f : Int → Int → Bool) (i j : Int) : BX f (.int i) (.int j) = some (.bl (f i j)) := (rfl)
theorem GS (i j : Int) : Tw (.int i) (.int j) = some (.int (i + j)) := (rfl)
theorem I2 (d : Dt) (e : En) : ao (.sh d :: e) 0 = some d := (rfl)
theorem JF (x : Sl) (e : En) (i : Nat) : ao (x :: e) (i + 1) = ao e i := (rfl)
theorem OF (d : List Dt) (e : En) : xw (.ow d :: e) 0 = some d := (rfl)
theorem OX (x : Sl) (e : En) (i : Nat) : xw (x :: e) (i + 1) = xw e i := (rfl)
theorem Ov (d : List Dt) (e : En) : frz (.ow d :: e) 0 = .sh (.lst d) :: e := (rfl)
theorem MB (d : Dt) (e : En) : frz (.sh d :: e) 0 = .sh d :: e := (rfl)
theorem Ko (e : En) : frz (.no :: e) 0 = .no :: e := (rfl)
theorem Kz (d : Dt) (e : En) : frz (.od d :: e) 0 = .od d :: e := (rfl)
theorem OR (x : Sl) (e : En) (i : Nat) : frz (x :: e) (i + 1) = x :: frz e i := by
  unfold frz
  rw [List.getElem?_cons_succ]
  cases h : e[i]? with
  | none => rfl
  | some y => cases y <;> rfl
theorem Ow (n : Nat) (ds : List Dt) : o4 n ds = ds.map .sh ++ List.replicate (n - ds.length) .no := (rfl)
theorem T9 (n : Nat) (m : List Dt → Option Dt) (ds : List Dt) : ar n m ds = if ds.length = n then m ds else none := (rfl)
theorem Kf (e : En) : fZ e [] = e := (rfl)
theorem Jg (e : En) (v : Nat) (vs : List Nat) : fZ e (v :: vs) = (fZ e vs).set v .no := (rfl)
theorem uN {n : Nat} (h : n ≤ 1000000) : sz n = true := decide_eq_true h
theorem gb {b : Bool} {d : Dt} (h : b = true) : guard b d = some d := by rw [h]; rfl
theorem Ol : fu [] = some (.tup []) := (rfl)
theorem OZ (a : Dt) : fu [a] = some (.tup [a]) := (rfl)
theorem OE (a b : Dt) : fu [a, b] = some (.tup [a, b]) := (rfl)
theorem Ox (a b c : Dt) : fu [a, b, c] = some (.tup [a, b, c]) := (rfl)
theorem Oo (a b c d : Dt) : fu [a, b, c, d] = some (.tup [a, b, c, d]) := (rfl)
theorem OY (a b c d e : Dt) : fu [a, b, c, d, e] = some (.tup [a, b, c, d, e]) := (rfl)
theorem OD (a b c d e f : Dt) : fu [a, b, c, d, e, f] = some (.tup [a, b, c, d, e, f]) := (rfl)
theorem Uh : vm [] = some [] := (rfl)
theorem UK (a : Dt) : vm [a] = some [a] := (rfl)
theorem UJ (a b : Dt) : vm [a, b] = some [a, b] := (rfl)
theorem Uz (a b c : Dt) : vm [a, b, c] = some [a, b, c] := (rfl)
theorem UE (a b c d : Dt) : vm [a, b, c, d] = some [a, b, c, d] := (rfl)
theorem Ld (a : Dt) (r : List Dt) : cY (.tup (a :: r)) (.int 0) = some a := by
  show atI (a :: r) 0 = _
  unfold atI ixN
  rw [if_pos (by decide), if_pos (by simp)]; rfl
theorem atI_nat {α : Type} (xs : List α) (n : Nat) : atI xs (n : Int) = xs[n]? := by
  unfold atI ixN
  rw [if_pos (by omega)]
  by_cases h : n < xs.length
  · rw [if_pos (by omega)]; rfl
  · rw [if_neg (by omega), List.getElem?_eq_none (by omega)]; rfl
theorem tV (xs : List Dt) (n : Nat) : cY (.tup xs) (.int n) = xs[n]? := atI_nat xs n
theorem jG (xs : List Dt) (n : Nat) : cY (.lst xs) (.int n) = xs[n]? := atI_nat xs n
theorem Jd (a b : Dt) (r : List Dt) : cY (.tup (a :: b :: r)) (.int 1) = some b := tV _ 1
theorem Lr (a b c : Dt) (r : List Dt) : cY (.tup (a :: b :: c :: r)) (.int 2) = some c := tV _ 2
theorem Lv (a b c d : Dt) (r : List Dt) : cY (.tup (a :: b :: c :: d :: r)) (.int 3) = some d := tV _ 3
theorem LJ (a b c d e : Dt) (r : List Dt) : cY (.tup (a :: b :: c :: d :: e :: r)) (.int 4) = some e := tV _ 4
theorem OL (kds : List (Key × Dt)) (s : Str) : cY (.dic kds) (.str s) = nY kds (.inr s) := (rfl)
theorem jq {i j : Int} (h : j ≠ 0) : dD (.int i) (.int j) = some (.int (i.fmod j)) := gb (decide_eq_true h)
theorem Eo {i j : Int} (h : j ≠ 0) (h2 : nb j < 9000) : HP (.int i) (.int j) = some (.int (i.fdiv j)) := gb (by rw [decide_eq_true h, decide_eq_true h2]; rfl)
theorem Th {i j : Int} (h : nb i + nb j < 900000) : jN (.int i) (.int j) = some (.int (i * j)) := gb (decide_eq_true h)
theorem KI (i j : Int) : U9 [.int i, .int j] = some (.int (if j > i then j else i)) := (rfl)
theorem Iv (i j : Int) : U8 [.int i, .int j] = some (.int (if j < i then j else i)) := (rfl)
theorem Jt (i : Int) : Vm [.int i] = some (.int (if i < 0 then -i else i)) := (rfl)
theorem Mw (xs : List Dt) : qh [.lst xs] = some (.int xs.length) := (rfl)
theorem L1 (b : Bool) : Vh [.bl b] = some (.int (if b then 1 else 0)) := (rfl)
theorem GR (xs : List Dt) : Uv [.lst xs] = some xs := (rfl)
theorem Qu {xs ys : List Dt} (h : xs.length + ys.length ≤ 1000000) : cA (.lst xs) (.lst ys) = some (.lst (xs ++ ys)) := gb (uN h)
theorem o5 {s t : Str} (h : s.length + t.length ≤ 1000000) : cA (.str s) (.str t) = some (.str (s ++ t)) := gb (uN h)
theorem EN {neg : Bool} {a b : Dt} {p q : PyData} (ha : qu a = some p) (hb : qu b = some q) (h1 : SeqAt.shaped p = true) (h2 : SeqAt.shaped q = true) : lK neg a b = some (.bl (if neg then !PyData.eqv p q else PyData.eqv p q)) := by
  unfold lK
  rw [ha, hb]
  show guard (SeqAt.shaped p && SeqAt.shaped q) _ = _
  rw [h1, h2]; rfl
theorem wc (neg : Bool) (i j : Int) : lK neg (.int i) (.int j) = some (.bl (if neg then !(i == j) else i == j)) := (rfl)
theorem B4 {i : Str} (h : PyData.strOk i = true) : SeqAt.shaped (.str i) = true := by
  unfold SeqAt.shaped
  rw [show PyData.canLay0 (.str i) = PyData.strOk i from rfl, h]
  rfl
theorem OH (neg : Bool) {i j : Str} (hi : PyData.strOk i = true) (hj : PyData.strOk j = true) : lK neg (.str i) (.str j) = some (.bl (if neg then !(i == j) else i == j)) := by
  rw [EN (p := .str i) (q := .str j) rfl rfl (B4 hi) (B4 hj)]
  rfl
theorem gD {f : Dt → En → Option En} {ft : En → Option Bool} {fe : En → Option Dt} {e0 : En} {α : Type} (D : α → Dt) (g : α → Dt) : ∀ (l : List α), (∀ a ∈ l, ∃ e1, f (D a) e0 = some e1 ∧ ft e1 = some true ∧ fe e1 = some (g a)) → fD f ft fe e0 (l.map D) = some (l.map g)
  | [], _ => rfl
  | a :: l, h => by
    obtain ⟨e1, h1, h2, h3⟩ := h a List.mem_cons_self
    rw [List.map_cons, fD, h1, Option.bind_some, h2, Option.bind_some, if_pos rfl, h3, Option.bind_some, gD D g l fun b hb => h b (List.mem_cons_of_mem _ hb)]
    rfl
theorem mL {xs : List Dt} {k : List Dt → Option (List Dt)} (h : xs.length ≤ 1000000) : kT (some xs) k = k xs := by
  unfold kT
  rw [Option.bind_some, if_pos (uN h)]
end DL
local macro_rules
  | `(tactic| simp! $[$l:location]?) => `(tactic| simp only [DL.Gk, DL.Gv, DL.Oc, DL.LW, DL.Me, DL.IW, DL.G2, DL.Ln, DL.Gj, DL.Jx, DL.UO, DL.Ug, DL.GG, DL.Od, DL.OM, DL.GZ, DL.JE, DL.G3, DL.Lj, DL.Gm, DL.Oj, DL.OV, DL.OJ, DL.OA, DL.OQ, DL.Oi, DL.Uw, DL.UG, DL.UI, DL.UA, DL.UM, DL.TJ, DL.GB, DL.G4, DL.Lf, DL.MO, DL.Ma, DL.MK, DL.GS, DL.I2, DL.JF, DL.OF, DL.OX, DL.Ov, DL.MB, DL.Ko, DL.OR, DL.Kz, DL.Gi, DL.Gh, DL.Gz, DL.Lw, DL.F9, DL.D9, DL.IS, DL.MI, DL.Mn, DL.LC, DL.G1, DL.OO, DL.GK, DL.Jr, DL.qz, DL.Ot, DL.O0, DL.Ow, DL.T9, DL.Kf, DL.Jg, DL.Ol, DL.OZ, DL.OE, DL.Ox, DL.Oo, DL.OY, DL.OD, DL.Uh, DL.UK, DL.UJ, DL.Uz, DL.UE, DL.Ld, DL.Jd, DL.Lr, DL.Lv, DL.LJ, DL.OL, DL.KI, DL.Iv, DL.Jt, DL.Mw, DL.L1, DL.GR, List.set_cons_zero, List.set_cons_succ, List.map_cons, List.map_nil, List.length_cons, List.length_nil, List.replicate, List.cons_append, List.nil_append, Option.bind_some, Option.map_some, Option.bind_none, Option.map_none, decide_eq_true_eq, if_true, Bool.false_eq_true, if_false] $[$l]?)
  | `(tactic| simp! [$as,*] $[$l:location]?) => `(tactic| simp only [DL.Gk, DL.Gv, DL.Oc, DL.LW, DL.Me, DL.IW, DL.G2, DL.Ln, DL.Gj, DL.Jx, DL.UO, DL.Ug, DL.GG, DL.Od, DL.OM, DL.GZ, DL.JE, DL.G3, DL.Lj, DL.Gm, DL.Oj, DL.OV, DL.OJ, DL.OA, DL.OQ, DL.Oi, DL.Uw, DL.UG, DL.UI, DL.UA, DL.UM, DL.TJ, DL.GB, DL.G4, DL.Lf, DL.MO, DL.Ma, DL.MK, DL.GS, DL.I2, DL.JF, DL.OF, DL.OX, DL.Ov, DL.MB, DL.Ko, DL.OR, DL.Kz, DL.Gi, DL.Gh, DL.Gz, DL.Lw, DL.F9, DL.D9, DL.IS, DL.MI, DL.Mn, DL.LC, DL.G1, DL.OO, DL.GK, DL.Jr, DL.qz, DL.Ot, DL.O0, DL.Ow, DL.T9, DL.Kf, DL.Jg, DL.Ol, DL.OZ, DL.OE, DL.Ox, DL.Oo, DL.OY, DL.OD, DL.Uh, DL.UK, DL.UJ, DL.Uz, DL.UE, DL.Ld, DL.Jd, DL.Lr, DL.Lv, DL.LJ, DL.OL, DL.KI, DL.Iv, DL.Jt, DL.Mw, DL.L1, DL.GR, List.set_cons_zero, List.set_cons_succ, List.map_cons, List.map_nil, List.length_cons, List.length_nil, List.replicate, List.cons_append, List.nil_append, Option.bind_some, Option.map_some, Option.bind_none, Option.map_none, decide_eq_true_eq, if_true, Bool.false_eq_true, if_false, $as,*] $[$l]?)
namespace DL
open PySem PySem.Spec PyProof.Rows L2
def Bd (k : Nat) (i : Int) : Prop := i.natAbs < 2 ^ k
theorem Bd.mono {p q : Nat} {i : Int} (h : Bd p i) (hpq : p ≤ q) : Bd q i := Nat.lt_of_lt_of_le h (Nat.pow_le_pow_right (by decide) hpq)
theorem Bd.mul {p q : Nat} {a b : Int} (h : Bd p a) (g : Bd q b) : Bd (p + q) (a * b) := by
  unfold Bd at *
  rw [Int.natAbs_mul, Nat.pow_add]
  exact Nat.mul_lt_mul'' h g
theorem Bd.add {p : Nat} {a b : Int} (h : Bd p a) (g : Bd p b) : Bd (p + 1) (a + b) := by
  unfold Bd at *
  rw [Nat.pow_succ]
  omega
theorem Bd.le {p : Nat} {a b : Int} (h : Bd p a) (g : b.natAbs ≤ a.natAbs) : Bd p b := Nat.lt_of_le_of_lt g h
theorem Bd.nb {p : Nat} {a : Int} (h : Bd p a) : DL.nb a ≤ p := by
  unfold DL.nb
  by_cases h0 : a.natAbs = 0
  · rw [h0, Nat.log2_zero]; exact Nat.zero_le _
  · exact Nat.le_of_lt ((Nat.log2_lt h0).mpr h)
theorem gT {p q : Nat} {i j : Int} (h : Bd p i) (g : Bd q j) (hpq : p + q < 900000) : jN (.int i) (.int j) = some (.int (i * j)) := Th (by
  have := h.nb
  have := g.nb
  omega)
def low (t b : Int) : Int × Int := (t / (Int.gcd t b : Nat), b / (Int.gcd t b : Nat))
theorem qG {t b : Int} (h : 0 < b) : 0 < Int.gcd t b := Int.gcd_pos_of_ne_zero_right t (by omega)
theorem BH (t b : Int) : (low t b).1 * (Int.gcd t b : Nat) = t ∧ (low t b).2 * (Int.gcd t b : Nat) = b := ⟨Int.ediv_mul_cancel (Int.gcd_dvd_left ..), Int.ediv_mul_cancel (Int.gcd_dvd_right ..)⟩
theorem M3 {t b : Int} (h : 0 < b) : 0 < (low t b).2 := by
  have h1 := (BH t b).2
  have h2 : (0 : Int) < (Int.gcd t b : Nat) := by have := qG (t := t) h; omega
  rcases Int.lt_trichotomy (low t b).2 0 with h3 | h3 | h3
  · have := Int.mul_neg_of_neg_of_pos h3 h2
    omega
  · rw [h3] at h1
    omega
  · exact h3
theorem NX {t b : Int} (h : 0 < b) : Int.gcd (low t b).1 (low t b).2 = 1 := by
  unfold low
  exact Int.gcd_ediv_gcd_ediv_gcd (qG h)
theorem SI {k m n : Int} (h : k ∣ m * n) (g : Int.gcd k m = 1) : k ∣ n := by
  have h1 : Int.gcd k (m * n) = k.natAbs := Nat.dvd_antisymm (by have := Int.natAbs_dvd_natAbs.mpr (Int.gcd_dvd_left k (m * n)); rwa [Int.natAbs_natCast] at this) (by
    rw [Int.gcd_eq_natAbs_gcd_natAbs]
    exact Nat.dvd_gcd (Nat.dvd_refl _) (Int.natAbs_dvd_natAbs.mpr h))
  rw [Int.gcd_mul_right_right_of_gcd_eq_one g] at h1
  have h2 : ((Int.gcd k n : Nat) : Int) ∣ n := Int.gcd_dvd_right ..
  rw [h1] at h2
  exact Int.natAbs_dvd.mp h2
structure Fr (p q : Nat) (a : Int × Int) : Prop where
  pos : 0 < a.2
  t : Bd p a.1
  b : Bd q a.2
theorem Fr.mono {p q p' q' : Nat} {a : Int × Int} (h : Fr p q a) (hp : p ≤ p') (hq : q ≤ q') : Fr p' q' a := ⟨h.pos, h.t.mono hp, h.b.mono hq⟩
end DL
namespace DL
open PySem PySem.Spec PyProof.Rows L2
def val (a : Int × Int) : Rat := (a.1 : Rat) / (a.2 : Rat)
def EF (a p : Int × Int) : Int × Int := low (a.1 * p.2 + p.1 * a.2) (a.2 * p.2)
def SQ (a p : Int × Int) : Int × Int := low (a.1 * p.1) (a.2 * p.2)
def Rv (l : List (Int × Int)) : Int × Int := l.foldl EF (0, 1)
theorem V7 (q : Nat) (h : 0 < q) : Bd q 1 := by
  unfold Bd
  show (1 : Nat) < 2 ^ q
  exact Nat.one_lt_two_pow (by omega)
theorem Fr.mul {p q p' q' : Nat} {a b : Int × Int} (ha : Fr p q a) (hb : Fr p' q' b) : Fr (p + p') (q + q') (a.1 * b.1, a.2 * b.2) := ⟨Int.mul_pos ha.pos hb.pos, ha.t.mul hb.t, ha.b.mul hb.b⟩
theorem Fr.add {p q p' q' : Nat} {a b : Int × Int} (ha : Fr p q a) (hb : Fr p' q' b) : Fr (p + q' + (p' + q) + 1) (q + q') (a.1 * b.2 + b.1 * a.2, a.2 * b.2) :=
  ⟨Int.mul_pos ha.pos hb.pos, ((ha.t.mul hb.b).mono (by omega)).add ((hb.t.mul ha.b).mono (by omega)), ha.b.mul hb.b⟩
theorem Fr.int {p : Nat} {i : Int} (h : Bd p i) : Fr p 1 (i, 1) := ⟨Int.one_pos, h, V7 1 (by decide)⟩
theorem Bd.fdiv {p : Nat} {a b : Int} (ha : 0 ≤ a) (hb : 0 < b) (h : Bd p a) : Bd p (a.fdiv b) := h.le (by
  rw [Int.fdiv_eq_ediv_of_nonneg _ (by omega)]
  have h1 := Int.ediv_nonneg ha (show (0 : Int) ≤ b by omega)
  have h2 := Int.ediv_le_self b ha
  omega)
end DL
namespace DL
open PySem PySem.Spec PyProof.Rows L2
theorem NZ {t b D : Int} (hb : 0 < b) (h : b ∣ D * t) : (low t b).2 ∣ D := by
  obtain ⟨h1, h2⟩ := BH t b
  have g0 := qG (t := t) hb
  have h3 : (low t b).2 * (Int.gcd t b : Nat) ∣ (D * (low t b).1) * (Int.gcd t b : Nat) := by
    rw [h2, Int.mul_assoc, h1]; exact h
  have h4 : (low t b).2 ∣ D * (low t b).1 := Int.dvd_of_mul_dvd_mul_right (by omega) h3
  have h5 : (low t b).2 ∣ (low t b).1 * D := by rw [Int.mul_comm]; exact h4
  exact SI h5 (by rw [Int.gcd_comm]; exact NX hb)
structure Dn (D : Int) (M : Nat) (a : Int × Int) : Prop where
  pos : 0 < a.2
  dv : a.2 ∣ D
  le : a.1.natAbs ≤ M * a.2.natAbs
theorem Dn.mono {D : Int} {M N : Nat} {a : Int × Int} (h : Dn D M a) (k : M ≤ N) : Dn D N a := ⟨h.pos, h.dv, Nat.le_trans h.le (Nat.mul_le_mul_right _ k)⟩
theorem Dn.fr {D : Int} (hD : 0 < D) {M p q : Nat} {a : Int × Int} (h : Dn D M a) (hM : M < 2 ^ p) (hq : Bd q D) : Fr (p + q) q a := by
  have hb : Bd q a.2 := hq.le (by
    have := Int.le_of_dvd hD h.dv
    have := h.pos
    omega)
  refine ⟨h.pos, ?_, hb⟩
  unfold Bd at *
  rw [Nat.pow_add]
  exact Nat.lt_of_le_of_lt h.le (Nat.mul_lt_mul'' hM hb)
theorem G8 {t b : Int} (hb : 0 < b) {M : Nat} (h : t.natAbs ≤ M * b.natAbs) : (low t b).1.natAbs ≤ M * (low t b).2.natAbs := by
  obtain ⟨h1, h2⟩ := BH t b
  have g0 := qG (t := t) hb
  have e1 : t.natAbs = (low t b).1.natAbs * Int.gcd t b := by
    have := congrArg Int.natAbs h1
    rw [Int.natAbs_mul, Int.natAbs_natCast] at this
    exact this.symm
  have e2 : b.natAbs = (low t b).2.natAbs * Int.gcd t b := by
    have := congrArg Int.natAbs h2
    rw [Int.natAbs_mul, Int.natAbs_natCast] at this
    exact this.symm
  rw [e1, e2, ← Nat.mul_assoc] at h
  exact Nat.le_of_mul_le_mul_right h g0
theorem Dn.low {D t b : Int} {M : Nat} (hb : 0 < b) (h : b ∣ D * t) (hM : t.natAbs ≤ M * b.natAbs) : Dn D M (DL.low t b) := ⟨M3 hb, NZ hb h, G8 hb hM⟩
theorem Dn.add {D : Int} {M N : Nat} {a b : Int × Int} (ha : Dn D M a) (hb : Dn D N b) : Dn D (M + N) (DL.EF a b) := by
  refine Dn.low (Int.mul_pos ha.pos hb.pos) ?_ ?_
  · obtain ⟨x, hx⟩ := ha.dv
    obtain ⟨y, hy⟩ := hb.dv
    rw [Int.mul_add]
    refine Int.dvd_add ?_ ?_
    · exact ⟨x * a.1, by rw [hx]; grind⟩
    · exact ⟨y * b.1, by rw [hy]; grind⟩
  · have h1 := ha.le
    have h2 := hb.le
    rw [Int.natAbs_mul]
    refine Nat.le_trans (Int.natAbs_add_le ..) ?_
    rw [Int.natAbs_mul, Int.natAbs_mul, Nat.add_mul]
    refine Nat.add_le_add ?_ ?_
    · calc a.1.natAbs * b.2.natAbs ≤ (M * a.2.natAbs) * b.2.natAbs := Nat.mul_le_mul_right _ h1
        _ = M * (a.2.natAbs * b.2.natAbs) := Nat.mul_assoc ..
    · calc b.1.natAbs * a.2.natAbs ≤ (N * b.2.natAbs) * a.2.natAbs := Nat.mul_le_mul_right _ h2
        _ = N * (a.2.natAbs * b.2.natAbs) := by rw [Nat.mul_assoc, Nat.mul_comm b.2.natAbs]
theorem Dn.mul {D E : Int} {M N : Nat} {a b : Int × Int} (ha : Dn D M a) (hb : Dn E N b) : Dn (D * E) (M * N) (DL.SQ a b) := by
  refine Dn.low (Int.mul_pos ha.pos hb.pos) ?_ ?_
  · obtain ⟨x, hx⟩ := ha.dv
    obtain ⟨y, hy⟩ := hb.dv
    exact ⟨x * y * (a.1 * b.1), by rw [hx, hy]; grind⟩
  · rw [Int.natAbs_mul, Int.natAbs_mul]
    calc a.1.natAbs * b.1.natAbs ≤ (M * a.2.natAbs) * (N * b.2.natAbs) := Nat.mul_le_mul ha.le hb.le
      _ = M * N * (a.2.natAbs * b.2.natAbs) := by rw [Nat.mul_mul_mul_comm]
theorem Dn.int {M : Nat} {i : Int} (h : i.natAbs ≤ M) : Dn 1 M (i, 1) := ⟨Int.one_pos, Int.dvd_refl _, by show i.natAbs ≤ M * 1; omega⟩
theorem Dn.zero {D : Int} : Dn D 0 (0, 1) := ⟨Int.one_pos, Int.one_dvd _, Nat.zero_le _⟩
theorem Dn.sumAt {D : Int} {N : Nat} : ∀ (l : List (Int × Int)) (M : Nat) (a : Int × Int), Dn D M a → (∀ b ∈ l, Dn D N b) → Dn D (M + N * l.length) (l.foldl DL.EF a)
  | [], M, a, h, _ => h
  | b :: l, M, a, h, hl => by
    have := Dn.sumAt l (M + N) _ (h.add (hl b List.mem_cons_self)) fun c hc => hl c (List.mem_cons_of_mem _ hc)
    rw [List.length_cons, Nat.mul_succ, show M + (N * l.length + N) = M + N + N * l.length by omega]
    exact this
theorem Dn.sum {D : Int} {N : Nat} {l : List (Int × Int)} (hl : ∀ b ∈ l, Dn D N b) : Dn D (N * l.length) (DL.Rv l) := by
  have := Dn.sumAt l 0 (0, 1) Dn.zero hl
  rw [Nat.zero_add] at this
  exact this
end DL
namespace DL
open PySem PySem.Spec PyProof.Rows L2
theorem Ho (l : List Str) : gr (l.map .str) = some l := by
  induction l with
  | nil => rfl
  | cons x l ih => rw [List.map_cons, gr, ih]; rfl
theorem fR {e : En} {i : Nat} {ds : List Dt} {d : Dt} (h : xw e i = some ds) (hz : ds.length < 1000000) : jO e i (some d) = some (.nx (e.set i (.ow (ds ++ [d])))) := by
  unfold jO
  rw [h]
  exact if_pos (uN hz)
end DL
namespace DY
open PySem PySem.Spec PyProof.Rows L2 DL
theorem Mx {a b : Int} (hb : 0 < b) : a.fdiv b = a / b := Int.fdiv_eq_ediv_of_nonneg _ (by omega)
end DY
namespace DY
open PySem PySem.Spec PyProof.Rows L2 DL
structure TD (w : World) (K : PySem.W.Frag) (mg : Str → Option Value) extends TB w K mg where
  QE : mg "dict" = none
end DY
namespace DY
open PySem PySem.Spec PyProof.Rows L2 DL
def dH (T : List (Int × bN)) (n : Int) : Option bN := (T.find? fun q => decide (q.1 = n)).map (·.2)
def tY (T : List (Int × bN)) (n : Int) (e : bN) : List (Int × bN) := if (dH T n).isSome = true then T.map (fun q => if q.1 = n then (q.1, e) else q) else T ++ [(n, e)]
def vI (T : List (Int × bN)) (n : Int) : List (Int × bN) := T.filter fun q => decide (q.1 ≠ n)
def NL (T : List (Int × bN)) (n : Int) : Option bN → List (Int × bN)
  | none => vI T n
  | some e => tY T n e
def GV (D : Di) (n : Int) (x y : Option bN) : Di := ⟨NL D.es n y, if x = none then n + 1 else D.fo, D.ch ++ [(n, x, y)], D.ba⟩
def qF (D : Di) (n : Int) (x y : Option bN) : Di := GV { D with ba := [] } n x y
def aJ (D : Di) (e : bN) : Di := qF D D.fo none (some e)
def dP (D : Di) (n : Int) : Di := qF D n (dH D.es n) none
def bV (D : Di) (n : Int) (e : bN) : Di := qF D n (dH D.es n) (some e)
def mW (D : Di) (n : Int) (x y : Option bN) : Di := ⟨NL D.es n x, if x = none then n else D.fo, D.ch.dropLast, D.ba ++ [(n, x, y)]⟩
def d0 : Di := ⟨[], 1, [], []⟩
section
variable {H H' : Hp} {kvs : List (Key × V)} {T : List (Int × bN)} {n : Int}
theorem bC.len (r : bC H kvs T) : kvs.length = T.length := by
  induction r with
  | nil => rfl
  | cons _ _ ih => rw [List.length_cons, List.length_cons, ih]
theorem kI {q : Int × bN} : dH (q :: T) n = if q.1 = n then some q.2 else dH T n := by
  unfold dH
  by_cases e : q.1 = n
  · rw [List.find?_cons_of_pos (by exact decide_eq_true e), if_pos e]; rfl
  · rw [List.find?_cons_of_neg (by exact fun z => e (of_decide_eq_true z)), if_neg e]
theorem bC.get (r : bC H kvs T) (n : Int) : (dH T n = none ∧ valV kvs (Sum.inl n) = none) ∨ ∃ e v, dH T n = some e ∧ valV kvs (Sum.inl n) = some v ∧ HC H v e := by
  induction r with
  | nil => exact .inl ⟨rfl, rfl⟩
  | @cons m v e kvs T h _ ih =>
    rw [kI]
    by_cases z : m = n
    · exact .inr ⟨e, v, if_pos z, valV_pos (by show (Sum.inl m : Key) = _; rw [z]), h⟩
    · have : valV ((Sum.inl m, v) :: kvs) (Sum.inl n : Key) = valV kvs (Sum.inl n) := valV_neg (fun y => z (Sum.inl.inj y))
      rw [this, if_neg z]
      exact ih
theorem bC.some (r : bC H kvs T) (n : Int) : (valV kvs (Sum.inl n)).isSome = (dH T n).isSome := by
  rcases r.get n with ⟨h1, h2⟩ | ⟨e, v, h1, h2, _⟩ <;> rw [h1, h2] <;> rfl
theorem bC.del (r : bC H kvs T) (n : Int) : bC H (dropK kvs (Sum.inl n)) (vI T n) := by
  induction r with
  | nil => exact .nil
  | @cons m v e kvs T h _ ih =>
    unfold dropK vI at *
    by_cases z : m = n
    · rw [List.filter_cons_of_neg (by simp [z]), List.filter_cons_of_neg (by simp [z])]
      exact ih
    · rw [List.filter_cons_of_pos (by simpa using z), List.filter_cons_of_pos (by simpa using z)]
      exact .cons h ih
theorem bC.snoc {v : V} {e : bN} (r : bC H kvs T) (h : HC H v e) : bC H (kvs ++ [(Sum.inl n, v)]) (T ++ [(n, e)]) := by
  induction r with
  | nil => exact .cons h .nil
  | cons h0 _ ih => exact .cons h0 ih
theorem bC.map_put {v : V} {e : bN} (r : bC H kvs T) (h : HC H v e) : bC H (kvs.map fun kv => if kv.1 = Sum.inl n then (kv.1, v) else kv) (T.map fun q => if q.1 = n then (q.1, e) else q) := by
  induction r with
  | nil => exact .nil
  | @cons m v0 e0 kvs T h0 _ ih =>
    rw [List.map_cons, List.map_cons]
    by_cases z : m = n
    · rw [if_pos (by show (Sum.inl m : Key) = _; rw [z]), if_pos z]
      exact .cons h ih
    · rw [if_neg (fun y => z (Sum.inl.inj y)), if_neg z]
      exact .cons h0 ih
theorem bC.put {v : V} {e : bN} (r : bC H kvs T) (h : HC H v e) : bC H (putK kvs (Sum.inl n) v) (tY T n e) := by
  unfold putK tY
  rw [valV_any, r.some n]
  split
  · exact r.map_put h
  · exact r.snoc h
theorem di.snoc {vs : List V} {L : List (Int × Option bN × Option bN)} (r : di H vs L) {p : Addr} {a b : V} {x y : Option bN} (h : H p = some (.tup [.int n, a, b])) (ha : EH H a x) (hb : EH H b y) : di H (vs ++ [.ref p]) (L ++ [(n, x, y)]) := by
  induction r with
  | nil => exact .cons h ha hb .nil
  | cons h0 h1 h2 _ ih => exact .cons h0 h1 h2 ih
theorem di.len {vs : List V} {L : List (Int × Option bN × Option bN)} (r : di H vs L) : vs.length = L.length := by
  induction r with
  | nil => rfl
  | cons _ _ _ _ ih => rw [List.length_cons, List.length_cons, ih]
theorem EH.non {v : V} {x : Option bN} (h : EH H v x) : decide (v = .non) = decide (x = none) := by
  cases x with
  | none => rw [show v = .non from h]; rfl
  | some e =>
    obtain ⟨p, q, rfl, _⟩ := h
    rfl
theorem Dg : (vI T n).length ≤ T.length := List.length_filter_le ..
theorem CD {e : bN} : (tY T n e).length ≤ T.length + 1 := by
  unfold tY
  split
  · rw [List.length_map]; omega
  · rw [List.length_append, List.length_singleton]; omega
end
section
variable {P : Program} {w : World} {K : PySem.W.Frag} {mg : Str → Option Value} {base : Heap}
def TR (C : Addr) : Sp := fun vs H Q _ => ∃ (q dx : Addr), vs = [.ref q] ∧ H q = some (.ins C dx []) ∧ ∀ (A : DA) H', A.q = q → H A.e = none → H A.c = none → H A.b = none → A.q ≠ A.e ∧ A.q ≠ A.c ∧ A.q ≠ A.b ∧ A.e ≠ A.c ∧ A.e ≠ A.b → (∀ p o, p ≠ q → H p = some o → H' p = some o) → IsD C A H' d0 → Q .non H'
theorem U7 : ("entries" : Str) ≠ "following" ∧ ("entries" : Str) ≠ "changes" ∧ ("entries" : Str) ≠ "changes_taken_back" ∧ ("following" : Str) ≠ "changes" ∧ ("following" : Str) ≠ "changes_taken_back" ∧ ("changes" : Str) ≠ "changes_taken_back" := by decide +kernel
theorem vo (T : TB w K mg) : FnOk P w K mg base CX0 1 T.qD T.mO ["self"] (TR T.aU) := by
  refine T.Cc.ok mP (fun vs H Q E h => ?_) (fun cdv A outer s H vs Q E hr h => ?_)
  · obtain ⟨_, _, rfl, _⟩ := h
    rfl
  · obtain ⟨q, dx, rfl, hq, k⟩ := h
    obtain ⟨n1, n2, n3, n4, n5, n6⟩ := U7
    refine ⟨_, pss_cons (ps_fld (pv 0) pe_dnewK rfl) (pss_cons (ps_fld (pv 0) pe_int rfl) (pss_cons (ps_fld (pv 0) (pe_lst pa_nil) rfl) (pss_one (ps_fld (pv 0) (pe_lst pa_nil) rfl)))), ?_⟩
    intro e ne
    have qe : q ≠ e := ne_of_none hq ne
    refine ⟨_, rfl, q, _, dx, _, rfl, by rw [upd_ne qe]; exact hq, T.az, T.aW, by show 0 < 1000; decide, ?_⟩
    refine ⟨_, rfl, q, _, dx, _, rfl, upd_same, T.az, T.bH, by show 1 < 1000; decide, ?_⟩
    refine ⟨by show 0 ≤ _; omega, fun c nc => ?_⟩
    have qc : q ≠ c := fun z => by rw [← z, upd_same] at nc; cases nc
    have nc' : H c = none := by rw [upd_ne qc.symm, upd_ne qc.symm] at nc; by_cases z : c = e; · rw [z, upd_same] at nc; cases nc
                                · rw [upd_ne z] at nc; exact nc
    have ec : e ≠ c := fun z => by rw [← z, upd_ne qe.symm, upd_ne qe.symm, upd_same] at nc; cases nc
    refine ⟨_, rfl, q, _, dx, _, rfl, by rw [upd_ne qc, upd_same], T.az, T.cW, by simp only [putF, if_neg n1]; show 2 < 1000; decide, ?_⟩
    refine ⟨by show 0 ≤ _; omega, fun b nb => ?_⟩
    have qb : q ≠ b := fun z => by rw [← z, upd_same] at nb; cases nb
    have cb : c ≠ b := fun z => by rw [← z, upd_ne qc.symm, upd_same] at nb; cases nb
    have nb' : H b = none ∧ e ≠ b := by
      rw [upd_ne qb.symm, upd_ne cb.symm, upd_ne qb.symm, upd_ne qb.symm] at nb
      by_cases z : b = e
      · rw [z, upd_same] at nb; cases nb
      · rw [upd_ne z] at nb; exact ⟨nb, fun y => z y.symm⟩
    refine ⟨_, rfl, q, _, dx, _, rfl, by rw [upd_ne qb, upd_same], T.az, T.bq, by simp only [putF, if_neg n1, if_neg n2, if_neg n4]; show 3 < 1000; decide, ?_⟩
    have ef : putF ("changes_taken_back" : Str) (V.ref b) (putF ("changes" : Str) (V.ref c) (putF ("following" : Str) (V.int 1) (putF ("entries" : Str) (V.ref e) []))) = dS ⟨q, e, c, b⟩ 1 := by
      unfold dS
      simp only [putF, if_neg n1, if_neg n2, if_neg n3, if_neg n4, if_neg n5, if_neg n6]
    refine k ⟨q, e, c, b⟩ _ rfl ne nc' nb'.1 ⟨qe, qc, qb, ec, nb'.2⟩ (fun p o hp ho => ?_) ⟨⟨dx, by rw [upd_same, ef]; rfl⟩, ⟨[], ?_, .nil⟩, ⟨[], ?_, .nil⟩, ⟨[], ?_, .nil⟩, cb, by show 0 ≤ _ ∧ 0 ≤ _ ∧ 0 ≤ _; omega⟩
    · have pe : p ≠ e := fun z => by rw [z, ne] at ho; cases ho
      have pc : p ≠ c := fun z => by rw [z, nc'] at ho; cases ho
      have pb : p ≠ b := fun z => by rw [z, nb'.1] at ho; cases ho
      rw [upd_ne hp, upd_ne pb, upd_ne hp, upd_ne pc, upd_ne hp, upd_ne hp, upd_ne pe]
      exact ho
    · show upd _ q _ e = _
      rw [upd_ne qe.symm, upd_ne nb'.2, upd_ne qe.symm, upd_ne ec, upd_ne qe.symm, upd_ne qe.symm, upd_same]
    · show upd _ q _ c = _
      rw [upd_ne qc.symm, upd_ne cb, upd_ne qc.symm, upd_same]
    · show upd _ q _ b = _
      rw [upd_ne qb.symm, upd_same]
def Oa (C : Addr) : Sp := fun vs H Q _ => ∃ (A : DA) (D : Di), vs = [.ref A.q] ∧ IsD C A H D ∧ Q (.int D.fo) H
theorem GD (A : DA) (fo : Int) : (dS A fo).lookup ("following" : Str) = some (.int fo) := by unfold dS; rfl
theorem ji (A : DA) (fo : Int) : (dS A fo).lookup ("entries" : Str) = some (.ref A.e) := by unfold dS; rfl
theorem AI (A : DA) (fo : Int) : (dS A fo).lookup ("changes" : Str) = some (.ref A.c) := by unfold dS; rfl
theorem NH (A : DA) (fo : Int) : (dS A fo).lookup ("changes_taken_back" : Str) = some (.ref A.b) := by unfold dS; rfl
theorem qd (T : TB w K mg) : FnOk P w K mg base CX0 1 T.cV.a T.cV.d ["self"] (Oa T.aU) := by
  refine T.cV.F.ok qq (fun vs H Q E h => ?_) (fun cdv A0 outer s H vs Q E hr h => ?_)
  · obtain ⟨_, _, rfl, _⟩ := h
    rfl
  · obtain ⟨A, D, rfl, hd, q⟩ := h
    refine ⟨_, pss_one (ps_ret (pe_fld (pv 0) rfl)), ?_⟩
    obtain ⟨dx, eo⟩ := hd.ob
    exact ⟨_, rfl, A.q, _, dx, _, _, rfl, eo, T.az, T.bH, GD .., q⟩
def Qz (C : Addr) : Sp := fun vs H Q _ => ∃ (q dx e : Addr) (fs : List (Str × V)) (n : Int) (v : V) (kvs : List (Key × V)), vs = [.ref q, .int n, v] ∧ H q = some (.ins C dx fs) ∧ fs.lookup ("entries" : Str) = some (.ref e) ∧ H e = some (.dK kvs) ∧ kvs.length ≤ 1000 ∧
  (v = .non → (valV kvs (Sum.inl n)).isSome = true ∧ Q .non (upd H e (.dK (dropK kvs (Sum.inl n))))) ∧ (v ≠ .non → Q .non (upd H e (.dK (putK kvs (Sum.inl n) v))))
theorem mY (T : TB w K mg) : FnOk P w K mg base CX0 1 T.cZ.a T.cZ.d ["self", "number", "entry"] (Qz T.aU) := by
  refine T.cZ.F.ok Au (fun vs H Q E h => ?_) (fun cdv A0 outer s H vs Q E hr h => ?_)
  · obtain ⟨_, _, _, _, _, _, _, rfl, _⟩ := h
    rfl
  · obtain ⟨q, dx, e, fs, n, v, kvs, rfl, hq, hl, he, hs, k1, k2⟩ := h
    have hu := hu_of hr
    refine ⟨_, pss_one (ps_if (pt_cmpR op_isN (pv 2) pe_non (nomark _)) (pss_one (ps_ddel (pe_fld (pv 0) rfl) (pv 1))) (pss_one (ps_dput hu (pe_fld (pv 0) rfl) (pv 1) (pv 2) rfl))), ?_⟩
    by_cases hv : v = .non
    · refine ⟨_, rfl, rfl, ?_⟩
      refine ⟨_, rfl, ?_⟩
      rw [decide_eq_true hv]
      refine ⟨_, rfl, q, _, dx, fs, _, rfl, hq, T.az, T.aW, hl, _, rfl, e, kvs, Sum.inl n, rfl, he, rfl, (k1 hv).1, (k1 hv).2⟩
    · refine ⟨_, rfl, rfl, ?_⟩
      refine ⟨_, rfl, ?_⟩
      rw [decide_eq_false hv]
      exact ⟨_, rfl, _, rfl, q, _, dx, fs, _, rfl, hq, T.az, T.aW, hl, _, rfl, e, _, rfl, DPut.k (k := Sum.inl n) he (small1000 (by omega)), k2 hv⟩
theorem F7 {c : Addr} {A : DA} {H : Hp} {D : Di} (h : IsD c A H D) : ∀ p, j6 A p → ∃ o, H p = some o ∧ isTup o = false := fun p hp => by
  obtain ⟨⟨dx, e⟩, ⟨k1, e1, r1⟩, ⟨k2, e2, r2⟩, ⟨k3, e3, r3⟩, nd, le⟩ := h
  rcases hp with rfl | rfl | rfl | rfl
  · exact ⟨_, e, rfl⟩
  · exact ⟨_, e1, rfl⟩
  · exact ⟨_, e2, rfl⟩
  · exact ⟨_, e3, rfl⟩
structure fz (C : Addr) (A A' : DA) (H H' : Hp) (D' : Di) : Prop where
  is : IsD C A' H' D'
  ts : TS H H'
  fr : ∀ p o, H p = some o → ¬ j6 A p → H' p = some o
  al : ∀ p, j6 A p → ∃ o, H' p = some o ∧ isTup o = false
section
variable {C : Addr} {A : DA} {D : Di} {H : Hp}
theorem IsD.ap (h : IsD C A H D) : A.q ≠ A.e ∧ A.q ≠ A.c ∧ A.q ≠ A.b ∧ A.e ≠ A.c ∧ A.e ≠ A.b := by
  obtain ⟨⟨dx, e0⟩, ⟨k1, e1, _⟩, ⟨k2, e2, _⟩, ⟨k3, e3, _⟩, nd, le⟩ := h
  exact ⟨(fun z => by rw [z, e1] at e0; cases e0), (fun z => by rw [z, e2] at e0; cases e0), (fun z => by rw [z, e3] at e0; cases e0), (fun z => by rw [z, e2] at e1; cases e1), fun z => by rw [z, e3] at e1; cases e1⟩
theorem t6 {H : Hp} {a : Addr} {o o' : HO} (e : H a = some o) (ht : isTup o = false) : TS H (upd H a o') := fun p xs hp => by
  by_cases z : p = a
  · subst z
    rw [e] at hp
    cases hp
    cases ht
  · rw [upd_ne z]; exact hp
theorem zd (h : IsD C A H D) {a : Addr} {o' : HO} (t : isTup o' = false) : ∀ p, j6 A p → ∃ o, upd H a o' p = some o ∧ isTup o = false := fun p hp => by
  by_cases z : p = a
  · rw [z, upd_same]; exact ⟨_, rfl, t⟩
  · rw [upd_ne z]; exact F7 h p hp
theorem IsD.updE (h : IsD C A H D) {kvs : List (Key × V)} {T : List (Int × bN)} (r : bC H kvs T) (hl : T.length ≤ 1000) : fz C A A H (upd H A.e (.dK kvs)) { D with es := T } := by
  have h0 := h
  obtain ⟨a1, a2, a3, a4, a5⟩ := h.ap
  obtain ⟨⟨dx, e0⟩, ⟨k1, e1, r1⟩, ⟨k2, e2, r2⟩, ⟨k3, e3, r3⟩, nd, le⟩ := h
  have ts : TS H (upd H A.e (.dK kvs)) := t6 e1 rfl
  exact ⟨⟨⟨dx, by rw [upd_ne a1]; exact e0⟩, ⟨kvs, upd_same, r.keep ts⟩, ⟨k2, by rw [upd_ne a4.symm]; exact e2, r2.keep ts⟩, ⟨k3, by rw [upd_ne a5.symm]; exact e3, r3.keep ts⟩, nd, hl, le.2⟩, ts, (fun p o hp hn => by rw [upd_ne fun z => hn (.inr (.inl z))]; exact hp), zd h0 rfl⟩
theorem IsD.updC (h : IsD C A H D) {vs : List V} {L : List (Int × Option bN × Option bN)} (r : di H vs L) (hl : L.length ≤ 1000) : fz C A A H (upd H A.c (.lst vs)) { D with ch := L } := by
  have h0 := h
  obtain ⟨a1, a2, a3, a4, a5⟩ := h.ap
  obtain ⟨⟨dx, e0⟩, ⟨k1, e1, r1⟩, ⟨k2, e2, r2⟩, ⟨k3, e3, r3⟩, nd, le⟩ := h
  have ts : TS H (upd H A.c (.lst vs)) := t6 e2 rfl
  exact ⟨⟨⟨dx, by rw [upd_ne a2]; exact e0⟩, ⟨k1, by rw [upd_ne a4]; exact e1, r1.keep ts⟩, ⟨vs, upd_same, r.keep ts⟩, ⟨k3, by rw [upd_ne nd.symm]; exact e3, r3.keep ts⟩, nd, le.1, hl, le.2.2⟩, ts, (fun p o hp hn => by rw [upd_ne fun z => hn (.inr (.inr (.inl z)))]; exact hp), zd h0 rfl⟩
theorem IsD.updB (h : IsD C A H D) {vs : List V} {L : List (Int × Option bN × Option bN)} (r : di H vs L) (hl : L.length ≤ 1000) : fz C A A H (upd H A.b (.lst vs)) { D with ba := L } := by
  have h0 := h
  obtain ⟨a1, a2, a3, a4, a5⟩ := h.ap
  obtain ⟨⟨dx, e0⟩, ⟨k1, e1, r1⟩, ⟨k2, e2, r2⟩, ⟨k3, e3, r3⟩, nd, le⟩ := h
  have ts : TS H (upd H A.b (.lst vs)) := t6 e3 rfl
  exact ⟨⟨⟨dx, by rw [upd_ne a3]; exact e0⟩, ⟨k1, by rw [upd_ne a5]; exact e1, r1.keep ts⟩, ⟨k2, by rw [upd_ne nd]; exact e2, r2.keep ts⟩, ⟨vs, upd_same, r.keep ts⟩, nd, le.1, le.2.1, hl⟩, ts, (fun p o hp hn => by rw [upd_ne fun z => hn (.inr (.inr (.inr z)))]; exact hp), zd h0 rfl⟩
theorem IsD.updQ (h : IsD C A H D) {A' : DA} (hq : A'.q = A.q) (he : A'.e = A.e) (hc : A'.c = A.c) {fo : Int} {L : List (Int × Option bN × Option bN)} (hb : ∃ vs, H A'.b = some (.lst vs) ∧ di H vs L) (nd : A.c ≠ A'.b) (hl : L.length ≤ 1000) {dx : Addr} : fz C A A' H (upd H A.q (.ins C dx (dS A' fo))) { D with fo := fo, ba := L } := by
  have h0 := h
  obtain ⟨a1, a2, a3, a4, a5⟩ := h.ap
  obtain ⟨⟨dx0, e0⟩, ⟨k1, e1, r1⟩, ⟨k2, e2, r2⟩, ⟨k3, e3, r3⟩, _, le⟩ := h
  obtain ⟨k4, e4, r4⟩ := hb
  have ts : TS H (upd H A.q (.ins C dx (dS A' fo))) := t6 e0 rfl
  have qb : A'.b ≠ A.q := fun z => by rw [z, e0] at e4; cases e4
  exact ⟨⟨⟨dx, by rw [hq, upd_same]⟩, ⟨k1, by rw [he, upd_ne a1.symm]; exact e1, r1.keep ts⟩, ⟨k2, by rw [hc, upd_ne a2.symm]; exact e2, r2.keep ts⟩, ⟨k4, by rw [upd_ne qb]; exact e4, r4.keep ts⟩, by rw [hc]; exact nd, le.1, le.2.1, hl⟩, ts, (fun p o hp hn => by rw [upd_ne fun z => hn (.inl z)]; exact hp), zd h0 rfl⟩
theorem fz.trans {A A' A'' : DA} {H H' H'' : Hp} {D' D'' : Di} (u : fz C A A' H H' D') (v : fz C A' A'' H' H'' D'') (hn : ∀ p, j6 A' p → j6 A p ∨ H p = none) : fz C A A'' H H'' D'' where
  is := v.is
  ts := fun p xs hp => v.ts p xs (u.ts p xs hp)
  fr := fun p o hp h => v.fr p o (u.fr p o hp h) fun z => by
    rcases hn p z with y | y
    · exact h y
    · rw [y] at hp; cases hp
  al := fun p hp => by
    by_cases z : j6 A' p
    · exact v.al p z
    · obtain ⟨o, e, t⟩ := u.al p hp
      exact ⟨o, v.fr p o e z, t⟩
theorem fz.pre {A A' : DA} {H H1 H' : Hp} {D' : Di} (s : Same H H1) (u : fz C A A' H1 H' D') : fz C A A' H H' D' :=
  ⟨u.is, fun p xs hp => u.ts p xs (s _ _ hp), fun p o hp hn => u.fr p o (s _ _ hp) hn, u.al⟩
end
theorem GQ (A : DA) (fo fo' : Int) : putF ("following" : Str) (V.int fo') (dS A fo) = dS A fo' := by
  obtain ⟨n1, n2, n3, n4, n5, n6⟩ := U7
  unfold dS
  simp only [putF, if_neg n1, if_true]
theorem MU (A : DA) (fo : Int) (b : Addr) : putF ("changes_taken_back" : Str) (V.ref b) (dS A fo) = dS { A with b := b } fo := by
  obtain ⟨n1, n2, n3, n4, n5, n6⟩ := U7
  unfold dS
  simp only [putF, if_neg n3, if_neg n5, if_neg n6, if_true]
theorem dM (A : DA) (fo : Int) {m : Str} (h1 : ("entries" : Str) ≠ m) (h2 : ("following" : Str) ≠ m) (h3 : ("changes" : Str) ≠ m) (h4 : ("changes_taken_back" : Str) ≠ m) : (dS A fo).lookup m = none := by
  unfold dS
  simp only [List.lookup_cons, List.lookup_nil, beq_false_of_ne h1.symm, beq_false_of_ne h2.symm, beq_false_of_ne h3.symm, beq_false_of_ne h4.symm]
def N8 (C : Addr) : Sp := fun vs H Q _ => ∃ (A : DA) (D : Di) (n : Int) (a b : V) (x y : Option bN), vs = [.ref A.q, .int n, a, b] ∧ IsD C A H D ∧ EH H a x ∧ EH H b y ∧ (y = none → (dH D.es n).isSome = true) ∧ D.es.length < 1000 ∧ D.ch.length < 1000 ∧
  ∀ H', fz C A A H H' (GV D n x y) → Q .non H'
theorem vp (T : TB w K mg) : FnOk P w K mg base CX0 2 T.d8.a T.d8.d ["self", "number", "old", "new"] (N8 T.aU) := by
  have Kd := mY (P := P) (w := w) (base := base) T
  refine T.d8.F.ok vH (fun vs H Q E h => ?_) (fun cdv A0 outer s H vs Q E hr h => ?_)
  · obtain ⟨_, _, _, _, _, _, _, rfl, _⟩ := h
    rfl
  · obtain ⟨A, D, n, a, b, x, y, rfl, hd, ha, hb, hy, l1, l2, k⟩ := h
    refine ⟨_, pss_cons (ps_expr (pe_bm PySem.F.plainAttrs_list PySem.F.slot_list_append PySem.F.type_list_append mt_append (pe_fld (pv 0) rfl) (pa_cons (pe_tup (pa_cons (pv 1) (pa_cons (pv 2) (pa_cons (pv 3) pa_nil)))) pa_nil)))
      (pss_cons (ps_expr (pe_meth (pv 0) T.az T.cZ.m Kd (hr.mono (by decide)) T.cZ.b .nil pass0 (pa_cons (pv 1) (pa_cons (pv 3) pa_nil))))
      (pss_one (ps_if (pt_cmpR op_isN (pv 2) pe_non (nomark _)) (pss_one (ps_fld (pv 0) (pe_op op_add (pv 1) pe_int) rfl)) pss_nil))), ?_⟩
    obtain ⟨dx, eo⟩ := hd.ob
    obtain ⟨us, ec, rc⟩ := hd.ch
    refine ⟨_, rfl, A.q, _, dx, _, _, rfl, eo, T.az, T.cW, AI .., ?_⟩
    refine ⟨.inl ⟨rfl, us, SqL.of ec⟩, _, rfl, _, rfl, _, rfl, by show 3 ≤ _; decide, fun tp np => ?_⟩
    have s1 : Same H (upd H tp (.tup [.int n, a, b])) := cS np
    have et : (upd H tp (.tup [.int n, a, b])) tp = some (.tup [.int n, a, b]) := upd_same
    have hd1 := hd.keep s1
    have ec1 := s1 _ _ ec
    have t1 : TS H (upd H tp (.tup [.int n, a, b])) := fun _ _ e => s1 _ _ e
    have rc1 := rc.keep t1
    have ha1 := ha.keep t1
    have hb1 := hb.keep t1
    generalize upd H tp (.tup [.int n, a, b]) = H1 at s1 et hd1 ec1 rc1 ha1 hb1 ⊢
    have lc := rc.len
    refine ⟨A.c, us, _, rfl, rfl, ec1, small1000 (by omega), ?_⟩
    have u1 := hd1.updC (rc1.snoc et ha1 hb1) (by rw [List.length_append, List.length_singleton]; omega)
    have ha2 := ha1.keep u1.ts
    have hb2 := hb1.keep u1.ts
    generalize upd H1 A.c (.lst (us ++ [.ref tp])) = H2 at u1 ha2 hb2 ⊢
    obtain ⟨dx2, eo2⟩ := u1.is.ob
    obtain ⟨kvs, ee, re⟩ := u1.is.es
    have le : kvs.length = D.es.length := re.len
    have npt := dM A D.fo (m := "put") (by decide +kernel) (by decide +kernel) (by decide +kernel) (by decide +kernel)
    have go : ∀ H3, fz T.aU A A H2 H3 { D with es := NL D.es n y, ch := D.ch ++ [(n, x, y)] } → tIfS (tTest (tOp (fun x y H Q => y = V.non ∧ Q (V.bl (decide (x = V.non))) H) (tVar 2) (tC V.non)))
        (sFld K (tVar 0) (tOp (rI0 fun i j => V.int (i + j)) (tVar 1) (tC (V.int 1))) (Str.ofString "following")) tNext { nx := fun x H' => Q V.non H', rt := Q } (L2.start lQ [V.ref A.q, V.int n, a, b]) H3 := fun H3 u3 => by
      have u := (fz.pre s1 u1).trans u3 fun p z => .inl z
      obtain ⟨dx3, eo3⟩ := u3.is.ob
      refine ⟨_, rfl, rfl, _, rfl, ?_⟩
      rw [ha.non]
      by_cases hx : x = none
      · rw [decide_eq_true hx]
        have u4 := u3.is.updQ (A' := A) rfl rfl rfl (fo := n + 1) u3.is.ba u3.is.nd u3.is.le.2.2 (dx := dx3)
        refine ⟨_, rfl, _, _, rfl, rfl, _, rfl, A.q, _, dx3, _, rfl, eo3, T.az, T.bH, by show 4 < 1000; decide, ?_⟩
        rw [GQ]
        refine k _ ?_
        have := u.trans u4 fun p z => .inl z
        unfold GV
        rw [if_pos hx]
        exact this
      · rw [decide_eq_false hx]
        refine k _ ?_
        unfold GV
        rw [if_neg hx]
        exact u
    refine ⟨_, rfl, A.q, dx2, _, rfl, eo2, npt, _, rfl, _, rfl, A.q, dx2, A.e, _, n, b, kvs, rfl, eo2, ji .., ee, by omega, fun hb0 => ⟨?_, go _ ?_⟩, fun hb0 => go _ ?_⟩
    · have y0 : y = none := by
        have := hb.non
        rw [decide_eq_true hb0] at this
        exact of_decide_eq_true this.symm
      rw [re.some n]
      exact hy y0
    · have y0 : y = none := by
        have := hb.non
        rw [decide_eq_true hb0] at this
        exact of_decide_eq_true this.symm
      subst y0
      exact u1.is.updE (re.del n) (by have := Dg (T := D.es) (n := n); show (vI D.es n).length ≤ 1000; omega)
    · cases y with
      | none => exact absurd hb hb0
      | some e => exact u1.is.updE (re.put hb2) (by have := CD (T := D.es) (n := n) (e := e); show (tY D.es n e).length ≤ 1000; omega)
def tH (A A' : DA) (H : Hp) : Prop := A'.q = A.q ∧ A'.e = A.e ∧ A'.c = A.c ∧ ∀ p, j6 A' p → j6 A p ∨ H p = none
def HH (C : Addr) : Sp := fun vs H Q _ => ∃ (A : DA) (D : Di) (n : Int) (a b : V) (x y : Option bN), vs = [.ref A.q, .int n, a, b] ∧ IsD C A H D ∧ EH H a x ∧ EH H b y ∧ (y = none → (dH D.es n).isSome = true) ∧ D.es.length < 1000 ∧ D.ch.length < 1000 ∧
  ∀ A' H', tH A A' H → fz C A A' H H' (qF D n x y) → Q .non H'
theorem gq (T : TB w K mg) : FnOk P w K mg base CX0 3 T.aX.a T.aX.d ["self", "number", "old", "new"] (HH T.aU) := by
  have P0 := vp (P := P) (w := w) (base := base) T
  refine T.aX.F.ok ql (fun vs H Q E h => ?_) (fun cdv A0 outer s H vs Q E hr h => ?_)
  · obtain ⟨_, _, _, _, _, _, _, rfl, _⟩ := h
    rfl
  · obtain ⟨A, D, n, a, b, x, y, rfl, hd, ha, hb, hy, l1, l2, k⟩ := h
    refine ⟨_, pss_cons (ps_fld (pv 0) (pe_lst pa_nil) rfl)
      (pss_one (ps_expr (pe_meth (pv 0) T.az T.d8.m P0 (hr.mono (by decide)) T.d8.b .nil pass0 (pa_cons (pv 1) (pa_cons (pv 2) (pa_cons (pv 3) pa_nil)))))), ?_⟩
    refine ⟨by show 0 ≤ _; omega, fun b' nb => ?_⟩
    have s1 : Same H (upd H b' (.lst [])) := cS nb
    have eb : (upd H b' (.lst [])) b' = some (.lst []) := upd_same
    have hd1 := hd.keep s1
    have t1 : TS H (upd H b' (.lst [])) := fun _ _ e => s1 _ _ e
    have ha1 := ha.keep t1
    have hb1 := hb.keep t1
    generalize upd H b' (.lst []) = H1 at s1 eb hd1 t1 ha1 hb1 ⊢
    obtain ⟨dx, eo⟩ := hd1.ob
    refine ⟨_, rfl, A.q, _, dx, _, rfl, eo, T.az, T.bq, by show 4 < 1000; decide, ?_⟩
    rw [MU]
    have cb : A.c ≠ b' := fun z => by
      obtain ⟨us, ec, _⟩ := hd.ch
      rw [z, nb] at ec
      cases ec
    have na : tH A { A with b := b' } H := ⟨rfl, rfl, rfl, fun p hp => by
      rcases hp with h | h | h | h
      · exact .inl (.inl h)
      · exact .inl (.inr (.inl h))
      · exact .inl (.inr (.inr (.inl h)))
      · exact .inr (by rw [h]; exact nb)⟩
    have u1 := hd1.updQ (A' := { A with b := b' }) rfl rfl rfl (fo := D.fo) (L := []) ⟨[], eb, .nil⟩ cb (Nat.zero_le _) (dx := dx)
    have ha2 := ha1.keep u1.ts
    have hb2 := hb1.keep u1.ts
    generalize upd H1 A.q (.ins T.aU dx (dS { A with b := b' } D.fo)) = H2 at u1 ha2 hb2 ⊢
    obtain ⟨dx2, eo2⟩ := u1.is.ob
    have nmk := dM { A with b := b' } D.fo (m := "make") (by decide +kernel) (by decide +kernel) (by decide +kernel) (by decide +kernel)
    exact ⟨_, rfl, A.q, dx2, _, rfl, eo2, nmk, _, rfl, _, rfl, _, rfl, { A with b := b' }, { D with ba := [] }, n, a, b, x, y, rfl, u1.is, ha2, hb2, hy, l1, l2, fun H' u => k _ H' na ((fz.pre s1 u1).trans u na.2.2.2)⟩
def kD : Key → Dt
  | .inl i => .int i
  | .inr s => .str s
theorem j9 {C : Cf} (H : Hp) : ∀ l : List Key, aH K C H (l.map kV) (l.map kD)
  | [] => .nil
  | .inl _ :: l => .cons .int (j9 H l)
  | .inr _ :: l => .cons .str (j9 H l)
def mU (C : Addr) : Sp := fun vs H Q _ => ∃ (A : DA) (D : Di) (day : Int) (p : Addr) (row : List Key), vs = [.ref A.q, .int day, .ref p] ∧ IsD C A H D ∧ H p = some (.tup (row.map kV)) ∧ aD [.int day, .tup (row.map kD)] = some .non ∧ D.es.length < 1000 ∧ D.ch.length < 1000 ∧
  ∀ A' H', tH A A' H → fz C A A' H H' (aJ D (day, row)) → Q (.int D.fo) H'
theorem ve (T : TB w K mg) : FnOk P w K mg base CX0 4 T.bX.a T.bX.d ["self", "day", "deed"] (mU T.aU) := by
  have jY := gq (P := P) (w := w) (base := base) T
  have iy := j8 (P := P) (w := w) (base := base) T
  refine T.bX.F.ok j4 (fun vs H Q E h => ?_) (fun cdv A0 outer s H vs Q E hr h => ?_)
  · obtain ⟨_, _, _, _, _, rfl, _⟩ := h
    rfl
  · obtain ⟨A, D, day, p, row, rfl, hd, hp, hc, l1, l2, k⟩ := h
    refine ⟨_, pss_cons (ps_expr (pe_call iy (hr.mono (by decide)) (by rfl) T.bx.g T.bx.F.kp T.bx.b .nil pass0 (pa_cons (pv 1) (pa_cons (pv 2) pa_nil))))
      (pss_cons (ps_set (i := 3) j4.nd rfl (Or.inl rfl) (pe_fld (pv 0) rfl))
      (pss_cons (ps_expr (pe_meth (pv 0) T.az T.aX.m jY (hr.mono (by decide)) T.aX.b .nil pass0 (pa_cons (pv 3) (pa_cons pe_non (pa_cons (pe_tup (pa_cons (pv 1) (pa_cons (pe_callTy call_tuple_of (by rfl) T.qC (by decide +kernel) (pa_cons (pv 2) pa_nil)) pa_nil))) pa_nil)))))
      (pss_one (ps_ret (pv 3))))), ?_⟩
    refine ⟨_, rfl, _, rfl, none, (fun _ => False), [.int day, .tup (row.map kD)], .non, (fun a h => h.elim), rfl, .cons .int (.cons (.tup (by rw [oq]; exact hp) (j9 _ _)) .nil), hc, fun H1 v s1 _ => ?_⟩
    have hd1 := hd.keep s1
    obtain ⟨dx, eo⟩ := hd1.ob
    refine ⟨_, rfl, A.q, _, dx, _, _, rfl, eo, T.az, T.bH, GD .., ?_⟩
    have nch := dM A D.fo (m := "change") (by decide +kernel) (by decide +kernel) (by decide +kernel) (by decide +kernel)
    refine ⟨_, rfl, A.q, dx, _, rfl, eo, nch, _, rfl, _, rfl, _, rfl, p, row.map kV, rfl, .inr ⟨SqT.of (s1 _ _ hp), by show 2 ≤ _; decide, fun tp np => ?_⟩⟩
    have s2 : Same H1 (upd H1 tp (.tup [.int day, .ref p])) := cS np
    have et : (upd H1 tp (.tup [.int day, .ref p])) tp = some (.tup [.int day, .ref p]) := upd_same
    have s12 := aS s1 s2
    generalize upd H1 tp (.tup [.int day, .ref p]) = H2 at s2 et s12 ⊢
    refine ⟨A, D, D.fo, .non, .ref tp, none, some (day, row), rfl, hd.keep s12, rfl, ⟨tp, p, rfl, et, s12 _ _ hp⟩, (fun z => by cases z), l1, l2, fun A' H' na u => ?_⟩
    refine ⟨_, rfl, k A' H' ⟨na.1, na.2.1, na.2.2.1, fun p hp => (na.2.2.2 p hp).imp id fun z => ?_⟩ (fz.pre s12 u)⟩
    cases e : H p with
    | none => rfl
    | some o => rw [s12 _ _ e] at z; cases z
theorem Hv (n : Int) : dR [.int n] = some (.bl true) := by
  have a : ur "int" (.int n) = some (.bl true) := by unfold ur; rfl
  have b : ur "bool" (.int n) = some (.bl false) := by unfold ur; rfl
  unfold dR ig
  show ((pV (ur "int" (.int n)) (wC (ur "bool" (.int n)))).map Rs.rt).bind gj = _
  rw [a, b]
  rfl
def Je (C : Addr) : Sp := fun vs H Q _ => ∃ (A : DA) (D : Di) (n : Int) (e : bN), vs = [.ref A.q, .int n] ∧ IsD C A H D ∧ dH D.es n = some e ∧ ∀ v H', Same H H' → HC H' v e → Q v H'
theorem jP (T : TB w K mg) : FnOk P w K mg base CX0 2 T.bY.a T.bY.d ["self", "number"] (Je T.aU) := by
  have f7 := iK (P := P) (w := w) (base := base) T
  refine T.bY.F.ok sy (fun vs H Q E h => ?_) (fun cdv A0 outer s H vs Q E hr h => ?_)
  · obtain ⟨_, _, _, _, rfl, _⟩ := h
    rfl
  · obtain ⟨A, D, n, e, rfl, hd, hg, k⟩ := h
    have hu := hu_of hr
    refine ⟨_, pss_cons (ps_if (PW.pt (pw_or (pt_not (pt_val (pe_call f7 (hr.mono (by decide)) (by rfl) T.aV.g T.aV.F.kp T.aV.b .nil pass0 (pa_cons (pv 1) pa_nil)))) (pw_or1 (pt_cmp (pc_dnotin hu (pv 1) (pe_fld (pv 0) rfl)))))) pss_never pss_nil)
      (pss_one (ps_ret (pe_dget hu (pe_fld (pv 0) rfl) (pv 1) (fun _ _ => rfl)))), ?_⟩
    refine ⟨_, rfl, none, (fun _ => False), [.int n], .bl true, (fun a h => h.elim), rfl, .cons .int .nil, Hv n, fun H1 v s1 r1 => ?_⟩
    cases r1
    refine ⟨true, rfl, ?_⟩
    have hd1 := hd.keep s1
    obtain ⟨dx, eo⟩ := hd1.ob
    obtain ⟨kvs, ee, re⟩ := hd1.es
    rcases re.get n with ⟨g1, _⟩ | ⟨e', v, g1, g2, g3⟩
    · rw [hg] at g1; cases g1
    · rw [hg] at g1
      cases g1
      show ite ((!true) = true) _ _
      rw [if_neg (show ¬ ((!true) = true) by decide)]
      refine ⟨_, rfl, _, rfl, A.q, _, dx, _, _, rfl, eo, T.az, T.aW, ji .., A.e, _, rfl, DGet.k (k := Sum.inl n) ee, ?_⟩
      rw [g2]
      refine ⟨false, rfl, ?_⟩
      exact ⟨_, rfl, A.q, _, dx, _, _, rfl, eo, T.az, T.aW, ji .., _, rfl, A.e, v, rfl, by rw [← g2]; exact DGet.k (k := Sum.inl n) ee, k v H1 s1 g3⟩
theorem tH.pre {A A' : DA} {H H1 : Hp} (s : Same H H1) (na : tH A A' H1) : tH A A' H := ⟨na.1, na.2.1, na.2.2.1, fun p hp => (na.2.2.2 p hp).imp id fun z => jh s z⟩
def vV (C : Addr) : Sp := fun vs H Q _ => ∃ (A : DA) (D : Di) (n : Int) (e : bN), vs = [.ref A.q, .int n] ∧ IsD C A H D ∧ dH D.es n = some e ∧ D.es.length < 1000 ∧ D.ch.length < 1000 ∧ ∀ A' H', tH A A' H → fz C A A' H H' (dP D n) → Q .non H'
theorem qp (T : TB w K mg) : FnOk P w K mg base CX0 4 T.cQ.a T.cQ.d ["self", "number"] (vV T.aU) := by
  have jY := gq (P := P) (w := w) (base := base) T
  have zk := jP (P := P) (w := w) (base := base) T
  refine T.cQ.F.ok qj (fun vs H Q E h => ?_) (fun cdv A0 outer s H vs Q E hr h => ?_)
  · obtain ⟨_, _, _, _, rfl, _⟩ := h
    rfl
  · obtain ⟨A, D, n, e, rfl, hd, hg, l1, l2, k⟩ := h
    refine ⟨_, pss_one (ps_expr (pe_meth (pv 0) T.az T.aX.m jY (hr.mono (by decide)) T.aX.b .nil pass0 (pa_cons (pv 1) (pa_cons (pe_meth (pv 0) T.az T.bY.m zk (hr.mono (by decide)) T.bY.b .nil pass0 (pa_cons (pv 1) pa_nil)) (pa_cons pe_non pa_nil))))), ?_⟩
    obtain ⟨dx, eo⟩ := hd.ob
    have nch := dM A D.fo (m := "change") (by decide +kernel) (by decide +kernel) (by decide +kernel) (by decide +kernel)
    have nen := dM A D.fo (m := "entry") (by decide +kernel) (by decide +kernel) (by decide +kernel) (by decide +kernel)
    refine ⟨_, rfl, A.q, dx, _, rfl, eo, nch, _, rfl, _, rfl, A.q, dx, _, rfl, eo, nen, _, rfl, A, D, n, e, rfl, hd, hg, fun v H1 s1 hv => ?_⟩
    refine ⟨A, D, n, v, .non, some e, none, rfl, hd.keep s1, hv, rfl, (fun _ => by rw [hg]; rfl), l1, l2, fun A' H' na u => k A' H' (na.pre s1) ?_⟩
    unfold dP
    rw [hg]
    exact fz.pre s1 u
def q7 (C : Addr) : Sp := fun vs H Q _ => ∃ (A : DA) (D : Di) (n day : Int) (p : Addr) (row : List Key) (e : bN), vs = [.ref A.q, .int n, .int day, .ref p] ∧ IsD C A H D ∧ dH D.es n = some e ∧ H p = some (.tup (row.map kV)) ∧ aD [.int day, .tup (row.map kD)] = some .non ∧ D.es.length < 1000 ∧ D.ch.length < 1000 ∧
  ∀ A' H', tH A A' H → fz C A A' H H' (bV D n (day, row)) → Q .non H'
theorem nZ (T : TB w K mg) : FnOk P w K mg base CX0 4 T.cz.a T.cz.d ["self", "number", "day", "deed"] (q7 T.aU) := by
  have jY := gq (P := P) (w := w) (base := base) T
  have zk := jP (P := P) (w := w) (base := base) T
  have iy := j8 (P := P) (w := w) (base := base) T
  refine T.cz.F.ok iQ (fun vs H Q E h => ?_) (fun cdv A0 outer s H vs Q E hr h => ?_)
  · obtain ⟨_, _, _, _, _, _, _, rfl, _⟩ := h
    rfl
  · obtain ⟨A, D, n, day, p, row, e, rfl, hd, hg, hp, hc, l1, l2, k⟩ := h
    refine ⟨_, pss_cons (ps_set (i := 4) iQ.nd rfl (Or.inl rfl) (pe_meth (pv 0) T.az T.bY.m zk (hr.mono (by decide)) T.bY.b .nil pass0 (pa_cons (pv 1) pa_nil)))
      (pss_cons (ps_expr (pe_call iy (hr.mono (by decide)) (by rfl) T.bx.g T.bx.F.kp T.bx.b .nil pass0 (pa_cons (pv 2) (pa_cons (pv 3) pa_nil))))
      (pss_one (ps_expr (pe_meth (pv 0) T.az T.aX.m jY (hr.mono (by decide)) T.aX.b .nil pass0 (pa_cons (pv 1) (pa_cons (pv 4) (pa_cons (pe_tup (pa_cons (pv 2) (pa_cons (pe_callTy call_tuple_of (by rfl) T.qC (by decide +kernel) (pa_cons (pv 3) pa_nil)) pa_nil))) pa_nil))))))), ?_⟩
    obtain ⟨dx, eo⟩ := hd.ob
    have nch := dM A D.fo (m := "change") (by decide +kernel) (by decide +kernel) (by decide +kernel) (by decide +kernel)
    have nen := dM A D.fo (m := "entry") (by decide +kernel) (by decide +kernel) (by decide +kernel) (by decide +kernel)
    refine ⟨_, rfl, A.q, dx, _, rfl, eo, nen, _, rfl, A, D, n, e, rfl, hd, hg, fun v H1 s1 hv => ?_⟩
    refine ⟨_, rfl, _, rfl, none, (fun _ => False), [.int day, .tup (row.map kD)], .non, (fun a h => h.elim), rfl, .cons .int (.cons (.tup (by rw [oq]; exact s1 _ _ hp) (j9 _ _)) .nil), hc, fun H2 _ s2 _ => ?_⟩
    have s12 := aS s1 s2
    refine ⟨_, rfl, A.q, dx, _, rfl, s12 _ _ eo, nch, _, rfl, _, rfl, _, rfl, _, rfl, p, row.map kV, rfl, .inr ⟨SqT.of (s12 _ _ hp), by show 2 ≤ _; decide, fun tp np => ?_⟩⟩
    have s3 : Same H2 (upd H2 tp (.tup [.int day, .ref p])) := cS np
    have et : (upd H2 tp (.tup [.int day, .ref p])) tp = some (.tup [.int day, .ref p]) := upd_same
    have s13 := aS s12 s3
    have hv3 : HC (upd H2 tp (.tup [.int day, .ref p])) v e := HC.keep (fun _ _ h => s3 _ _ (s2 _ _ h)) hv
    generalize upd H2 tp (.tup [.int day, .ref p]) = H3 at s3 et s13 hv3 ⊢
    refine ⟨A, D, n, v, .ref tp, some e, some (day, row), rfl, hd.keep s13, hv3, ⟨tp, p, rfl, et, s13 _ _ hp⟩, (fun z => by cases z), l1, l2, fun A' H' na u => k A' H' (na.pre s13) ?_⟩
    unfold bV
    rw [hg]
    exact fz.pre s13 u
theorem di.last {H : Hp} {vs : List V} {L : List (Int × Option bN × Option bN)} {n : Int} {x y : Option bN} (r : di H vs (L ++ [(n, x, y)])) : ∃ p a b us, vs = us ++ [V.ref p] ∧ H p = some (.tup [.int n, a, b]) ∧ EH H a x ∧ EH H b y ∧ di H us L := by
  induction L generalizing vs with
  | nil =>
    cases r with
    | cons h1 h2 h3 r =>
      cases r
      exact ⟨_, _, _, [], rfl, h1, h2, h3, .nil⟩
  | cons q L ih =>
    cases r with
    | cons h1 h2 h3 r =>
      obtain ⟨p, a, b, us, rfl, g1, g2, g3, g4⟩ := ih r
      exact ⟨p, a, b, _ :: us, rfl, g1, g2, g3, .cons h1 h2 h3 g4⟩
theorem NI {α : Type} (us : List α) (x : α) : (us ++ [x])[(us ++ [x]).length - 1]? = some x := by
  rw [List.length_append, List.length_singleton, Nat.add_sub_cancel, List.getElem?_append_right (Nat.le_refl _), Nat.sub_self]
  rfl
def Gy (C : Addr) : Sp := fun vs H Q _ => ∃ (A : DA) (D : Di) (L : List (Int × Option bN × Option bN)) (n : Int) (x y : Option bN), vs = [.ref A.q] ∧ IsD C A H D ∧ D.ch = L ++ [(n, x, y)] ∧ (x = none → (dH D.es n).isSome = true) ∧ D.es.length < 1000 ∧ D.ba.length < 1000 ∧
  ∀ H', fz C A A H H' (mW D n x y) → Q .non H'
theorem vJ (T : TB w K mg) : FnOk P w K mg base CX0 2 T.d7.a T.d7.d ["self"] (Gy T.aU) := by
  have Kd := mY (P := P) (w := w) (base := base) T
  refine T.d7.F.ok fM (fun vs H Q E h => ?_) (fun cdv A0 outer s H vs Q E hr h => ?_)
  · obtain ⟨_, _, _, _, _, _, rfl, _⟩ := h
    rfl
  · obtain ⟨A, D, L, n, x, y, rfl, hd, hL, hx, l1, l2, k⟩ := h
    refine ⟨_, pss_cons (ps_if (pt_not (pt_truth (pe_fld (pv 0) rfl) (fun _ => rfl))) pss_never pss_nil)
      (pss_cons (ps_asg (pe_bm0 PySem.F.plainAttrs_list PySem.F.slot_list_pop PySem.F.type_list_pop mt_pop (pe_fld (pv 0) rfl)) (pg_tup rfl (pgs_cons (pg_name (i := 1) fM.nd rfl (Or.inl rfl)) (pgs_cons (pg_name (i := 2) fM.nd rfl (Or.inl rfl)) (pgs_cons (pg_name (i := 3) fM.nd rfl (Or.inl rfl)) pgs_nil)))))
      (pss_cons (ps_expr (pe_bm PySem.F.plainAttrs_list PySem.F.slot_list_append PySem.F.type_list_append mt_append (pe_fld (pv 0) rfl) (pa_cons (pe_tup (pa_cons (pv 1) (pa_cons (pv 2) (pa_cons (pv 3) pa_nil)))) pa_nil)))
      (pss_cons (ps_expr (pe_meth (pv 0) T.az T.cZ.m Kd (hr.mono (by decide)) T.cZ.b .nil pass0 (pa_cons (pv 1) (pa_cons (pv 2) pa_nil))))
      (pss_one (ps_if (pt_cmpR op_isN (pv 2) pe_non (nomark _)) (pss_one (ps_fld (pv 0) (pv 1) rfl)) pss_nil))))), ?_⟩
    obtain ⟨dx, eo⟩ := hd.ob
    obtain ⟨vs, ec, rc⟩ := hd.ch
    rw [hL] at rc
    obtain ⟨p, a, b, us, rfl, hp, ha, hb, ru⟩ := rc.last
    have lu := ru.len
    have lch : D.ch.length = L.length + 1 := by rw [hL, List.length_append, List.length_singleton]
    have lle := hd.le.2.1
    refine ⟨_, rfl, A.q, _, dx, _, _, rfl, eo, T.az, T.cW, AI .., true, .inl ⟨_, SqL.of ec, by simp⟩, ?_⟩
    show ite ((!true) = true) _ _
    rw [if_neg (show ¬ ((!true) = true) by decide)]
    refine ⟨_, rfl, A.q, _, dx, _, _, rfl, eo, T.az, T.cW, AI .., .inl ⟨rfl, _, SqL.of ec⟩, A.c, _, _, rfl, rfl, ec, NI us _, ?_⟩
    rw [List.dropLast_concat]
    have u1 := hd.updC ru (by omega)
    have hp1 := u1.ts _ _ hp
    have ha1 := ha.keep u1.ts
    have hb1 := hb.keep u1.ts
    generalize upd H A.c (.lst us) = H1 at u1 hp1 ha1 hb1 ⊢
    refine ⟨p, _, rfl, SqT.of hp1, rfl, _, _, rfl, _, _, rfl, _, _, rfl, rfl, ?_⟩
    obtain ⟨dx1, eo1⟩ := u1.is.ob
    obtain ⟨ws, eb, rb⟩ := u1.is.ba
    have lb := rb.len
    refine ⟨_, rfl, A.q, _, dx1, _, _, rfl, eo1, T.az, T.bq, NH .., .inl ⟨rfl, _, SqL.of eb⟩, _, rfl, _, rfl, _, rfl, by show 3 ≤ _; decide, fun tp np => ?_⟩
    have s2 : Same H1 (upd H1 tp (.tup [.int n, a, b])) := cS np
    have et : (upd H1 tp (.tup [.int n, a, b])) tp = some (.tup [.int n, a, b]) := upd_same
    have t2 : TS H1 (upd H1 tp (.tup [.int n, a, b])) := fun _ _ e => s2 _ _ e
    have hd2 := u1.is.keep s2
    have eb2 := s2 _ _ eb
    have rb2 := rb.keep t2
    have ha2 := ha1.keep t2
    have hb2 := hb1.keep t2
    generalize upd H1 tp (.tup [.int n, a, b]) = H2 at s2 et t2 hd2 eb2 rb2 ha2 hb2 ⊢
    have lb' : ws.length = D.ba.length := lb
    refine ⟨A.b, ws, _, rfl, rfl, eb2, small1000 (by omega), ?_⟩
    have u2 := hd2.updB (rb2.snoc et ha2 hb2) (by rw [List.length_append, List.length_singleton]; show D.ba.length + 1 ≤ 1000; omega)
    have ha3 := ha2.keep u2.ts
    generalize upd H2 A.b (.lst (ws ++ [.ref tp])) = H3 at u2 ha3 ⊢
    obtain ⟨dx3, eo3⟩ := u2.is.ob
    obtain ⟨kvs, ee, re⟩ := u2.is.es
    have le : kvs.length = D.es.length := re.len
    have npt := dM A D.fo (m := "put") (by decide +kernel) (by decide +kernel) (by decide +kernel) (by decide +kernel)
    have u12 : fz T.aU A A H H3 { D with ch := L, ba := D.ba ++ [(n, x, y)] } := u1.trans (fz.pre s2 u2) fun p z => .inl z
    have go : ∀ H4, fz T.aU A A H3 H4 { D with es := NL D.es n x, ch := L, ba := D.ba ++ [(n, x, y)] } → tIfS (tTest (tOp (fun x y H Q => y = V.non ∧ Q (V.bl (decide (x = V.non))) H) (tVar 2) (tC V.non)))
        (sFld K (tVar 0) (tVar 1) (Str.ofString "following")) tNext { nx := fun x H' => Q V.non H', rt := Q } (((List.set (L2.start mq [V.ref A.q]) 1 (some (V.int n))).set 2 (some a)).set 3 (some b)) H4 := fun H4 u4 => by
      have u := u12.trans u4 fun p z => .inl z
      have ed : D.ch.dropLast = L := by rw [hL, List.dropLast_concat]
      obtain ⟨dx4, eo4⟩ := u4.is.ob
      refine ⟨_, rfl, rfl, _, rfl, ?_⟩
      rw [ha.non]
      by_cases hx0 : x = none
      · rw [decide_eq_true hx0]
        have u5 := u4.is.updQ (A' := A) rfl rfl rfl (fo := n) u4.is.ba u4.is.nd u4.is.le.2.2 (dx := dx4)
        refine ⟨_, rfl, _, rfl, A.q, _, dx4, _, rfl, eo4, T.az, T.bH, by show 4 < 1000; decide, ?_⟩
        rw [GQ]
        refine k _ ?_
        have := u.trans u5 fun p z => .inl z
        unfold mW
        rw [if_pos hx0, ed]
        exact this
      · rw [decide_eq_false hx0]
        refine k _ ?_
        unfold mW
        rw [if_neg hx0, ed]
        exact u
    refine ⟨_, rfl, A.q, dx3, _, rfl, eo3, npt, _, rfl, _, rfl, A.q, dx3, A.e, _, n, a, kvs, rfl, eo3, ji .., ee, by omega, fun ha0 => ⟨?_, go _ ?_⟩, fun ha0 => go _ ?_⟩
    · have x0 : x = none := by
        have := ha.non
        rw [decide_eq_true ha0] at this
        exact of_decide_eq_true this.symm
      rw [re.some n]
      exact hx x0
    · have x0 : x = none := by
        have := ha.non
        rw [decide_eq_true ha0] at this
        exact of_decide_eq_true this.symm
      subst x0
      exact u2.is.updE (re.del n) (by have := Dg (T := D.es) (n := n); show (vI D.es n).length ≤ 1000; omega)
    · cases x with
      | none => exact absurd ha ha0
      | some e => exact u2.is.updE (re.put ha3) (by have := CD (T := D.es) (n := n) (e := e); show (tY D.es n e).length ≤ 1000; omega)
def Dy (H : Hp) (D : Di) (n : Int) (v : V) : Prop := ∃ t e q, v = V.ref t ∧ dH D.es n = some e ∧ H t = some (.tup [.int n, .int e.1, .ref q]) ∧ H q = some (.tup (e.2.map kV))
theorem Dy.keep {H H' : Hp} {D : Di} {n : Int} {v : V} (s : TS H H') (h : Dy H D n v) : Dy H' D n v := by
  obtain ⟨t, e, q, h1, h2, h3, h4⟩ := h
  exact ⟨t, e, q, h1, h2, s _ _ h3, s _ _ h4⟩
theorem bC.keys {H : Hp} {kvs : List (Key × V)} {T : List (Int × bN)} (r : bC H kvs T) : kvs.map (·.1) = (T.map (·.1)).map Sum.inl := by
  induction r with
  | nil => rfl
  | cons _ _ ih => rw [List.map_cons, List.map_cons, List.map_cons, ih]
theorem KQ {T : List (Int × bN)} {n : Int} (h : n ∈ T.map (·.1)) : (dH T n).isSome = true := by
  induction T with
  | nil => cases h
  | cons q T ih =>
    rw [kI]
    by_cases e : q.1 = n
    · rw [if_pos e]; rfl
    · rw [if_neg e]
      exact ih ((List.mem_cons.mp h).resolve_left fun z => e z.symm)
theorem uc {H H' : Hp} {D : Di} (s : TS H H') : ∀ {ys : List Int} {vs : List V}, Paired (Dy H D) ys vs → Paired (Dy H' D) ys vs
  | _, _, .nil => .nil
  | _, _, .cons h r => .cons (h.keep s) (uc s r)
def Gn (C : Addr) : Sp := fun vs H Q _ => ∃ (A : DA) (D : Di), vs = [.ref A.q] ∧ IsD C A H D ∧ D.es.length < 64 ∧ ∀ H' p us ys, Same H H' → H p = none → H' p = some (.lst us) → ys.Perm (D.es.map (·.1)) → ys.Pairwise (· ≤ ·) → Paired (Dy H' D) ys us → Q (.ref p) H'
theorem kW (T : TB w K mg) : FnOk P w K mg base CX0 1 T.cE.a T.cE.d ["self"] (Gn T.aU) := by
  refine T.cE.F.ok iC (fun vs H Q E h => ?_) (fun cdv A0 outer s H vs Q E hr h => ?_)
  · obtain ⟨_, _, rfl, _⟩ := h
    rfl
  · obtain ⟨A, D, rfl, hd, hl, k⟩ := h
    have hu := hu_of hr
    refine ⟨_, pss_one (ps_ret (pe_lc (own := [("number", 1)]) (g := (gName 1)) (tt := tYes) (by rfl) iC.nd (pi_list (pe_callB (call_sortedDI rfl) (by rfl) T.l7 (by decide +kernel) (pa_cons (pe_fld (pv 0) rfl) pa_nil))) (blkOk_by (N := mh) (sc := defScope gy) (by decide +kernel)) (fun _ _ _ _ _ => (pg_name (i := 1) iC.nd rfl (Or.inl rfl))) (fun _ _ _ _ _ => pts_nil) (fun _ _ _ _ _ => (pe_tup (pa_cons (pv 1) (pa_cons (pe_ix (r := bP K) (aF hu) (pe_ix (r := bP K) (aF hu) (show PE _ _ (tFld K _ _) from pe_fld (pv 0) rfl) (pv 1) (fun _ _ => rfl)) pe_int (fun _ _ => rfl)) (pa_cons (pe_ix (r := bP K) (aF hu) (pe_ix (r := bP K) (aF hu) (show PE _ _ (tFld K _ _) from pe_fld (pv 0) rfl) (pv 1) (fun _ _ => rfl)) pe_int (fun _ _ => rfl)) pa_nil))))))), ?_⟩
    obtain ⟨dx, eo⟩ := hd.ob
    obtain ⟨kvs, ee, re⟩ := hd.es
    refine ⟨_, rfl, A.q, _, dx, _, _, rfl, eo, T.az, T.aW, ji .., A.e, kvs, D.es.map (·.1), rfl, .inl ee, re.keys, by rw [List.length_map]; exact hl, fun ys p hp hs np => ?_⟩
    have s1 : Same H (upd H p (.lst (ys.map V.int))) := cS np
    have ep : (upd H p (.lst (ys.map V.int))) p = some (.lst (ys.map V.int)) := upd_same
    generalize upd H p (.lst (ys.map V.int)) = H1 at s1 ep ⊢
    refine ⟨p, rfl, ⟨_, SqL.of ep⟩, fun L nL => ?_⟩
    refine lc_list (K := K) (a := p) (xs := ys.map V.int) (fun i H' => Same H1 H' ∧ ∃ us, H' L = some (.lst us) ∧ us.length = i ∧ Paired (Dy H' D) (ys.take i) us)
      ⟨cS nL, [], upd_same, rfl, .nil⟩ (fun i H' _ p => SqL.of (p.1 _ _ ep)) (fun i x H' hx p => ?_) (fun H' p => ?_)
    · obtain ⟨sm', us, eL, hus, pd⟩ := p
      obtain ⟨n, hn, rfl⟩ : ∃ n, ys[i]? = some n ∧ x = .int n := by
        rw [List.getElem?_map] at hx
        cases e : ys[i]? with
        | none => rw [e] at hx; cases hx
        | some n => rw [e] at hx; exact ⟨n, rfl, (Option.some.inj hx).symm⟩
      have hm : n ∈ D.es.map (·.1) := hp.mem_iff.mp (List.mem_of_getElem? hn)
      have sa := s1.trans sm'
      have ts := TS.of sa
      rcases (re.keep ts).get n with ⟨z, _⟩ | ⟨e, v, g1, g2, pr, pq, rfl, g3, g4⟩
      · have := KQ hm
        rw [z] at this
        cases this
      · have hi : i < ys.length := (List.getElem?_eq_some_iff.mp hn).1
        have hyl : ys.length = D.es.length := by rw [hp.length_eq, List.length_map]
        have dg : DGet H' A.e (.int n) (some (.ref pr)) := by
          have z := DGet.k (k := Sum.inl n) (sa _ _ ee)
          rw [g2] at z
          exact z
        have eo' := sa _ _ eo
        refine ⟨rfl, yes (iteT ?_)⟩
        refine ⟨_, rfl, _, rfl, A.q, _, dx, _, _, rfl, eo', T.az, T.aW, ji .., _, rfl, .inr ⟨A.e, _, rfl, dg, .inl (.inr (.inl ⟨pr, _, 0, _, rfl, rfl, SqT.of g3, atI_nat (j := 0) rfl, ?_⟩))⟩⟩
        refine ⟨_, rfl, A.q, _, dx, _, _, rfl, eo', T.az, T.aW, ji .., _, rfl, .inr ⟨A.e, _, rfl, dg, .inl (.inr (.inl ⟨pr, _, 1, _, rfl, rfl, SqT.of g3, atI_nat (j := 1) rfl, by show 3 ≤ _; decide, fun tp np => ?_⟩))⟩⟩
        have s3 : Same H' (upd H' tp (.tup [.int n, .int e.1, .ref pq])) := cS np
        have et : (upd H' tp (.tup [.int n, .int e.1, .ref pq])) tp = some (.tup [.int n, .int e.1, .ref pq]) := upd_same
        have t3 : TS H' (upd H' tp (.tup [.int n, .int e.1, .ref pq])) := fun _ _ h => s3 _ _ h
        have eL3 := s3 _ _ eL
        have g43 := s3 _ _ g4
        generalize upd H' tp (.tup [.int n, .int e.1, .ref pq]) = H4 at s3 et t3 eL3 g43 ⊢
        have t4 : TS H4 (upd H4 L (.lst (us ++ [.ref tp]))) := t6 eL3 rfl
        refine ⟨us, eL3, small1000 (by omega), ?_, us ++ [.ref tp], upd_same, ?_, ?_⟩
        · intro b o hb
          rw [upd_ne (ne_of_none hb nL)]
          exact s3 _ _ (sm' _ _ hb)
        · rw [List.length_append, hus]
          rfl
        · rw [List.take_add_one, hn]
          exact j3 ⟨tp, e, pq, rfl, g1, t4 _ _ et, t4 _ _ g43⟩ (uc (fun _ _ h => t4 _ _ (t3 _ _ h)) pd)
    · obtain ⟨sm', us, eL, hus, pd⟩ := p
      rw [List.length_map, List.take_length] at pd
      exact k H' L us ys (s1.trans sm') (s1.free nL) eL hp hs pd
end
end DY
namespace DY
open PySem PySem.Spec PyProof.Rows L2 DL
theorem Ja {K : PySem.W.Frag} {C : Cf} {R : Addr → Prop} {H : Hp} {v : V} {D : Di} (r : Rep K C (only R H) v (.dia D)) : ∃ A : DA, v = .ref A.q ∧ C.lk = none ∧ IsD (C.c.cs "Diary") A H D ∧ ∀ p, j6 A p → R p := by
  cases r with
  | @dia A _ hl h =>
    have h' : IsD (C.c.cs "Diary") A H D := h.keep aG
    obtain ⟨⟨dx, e⟩, ⟨k1, e1, r1⟩, ⟨k2, e2, r2⟩, ⟨k3, e3, r3⟩, nd, le⟩ := h
    have g : ∀ {a o}, only R H a = some o → isTup o = false → R a := fun h n => (nV h).1.elim id fun z => by rw [n] at z; cases z
    exact ⟨A, rfl, hl, h', fun p hp => by
      rcases hp with rfl | rfl | rfl | rfl
      · exact g e rfl
      · exact g e1 rfl
      · exact g e2 rfl
      · exact g e3 rfl⟩
theorem G5 {K : PySem.W.Frag} {C : Cf} {R : Addr → Prop} {H : Hp} {A : DA} {D : Di} (hl : C.lk = none) (h : IsD (C.c.cs "Diary") A H D) (n : ∀ p, j6 A p → R p) : Rep K C (only R H) (.ref A.q) (.dia D) :=
  .dia hl (h.to (fun p xs e => qI (.inr rfl) e) fun a o ha e => qI (.inl (n a ha)) e)
def P9 : Dt → Option Dt
  | .dia D => some (.int D.fo)
  | _ => none
def DX (D : Di) (n : Int) : Dt := match dH D.es n with
  | some e => .tup [.int n, .int e.1, .tup (e.2.map kD)]
  | none => .non
def yw (D : Di) : List Dt := (sortI (D.es.map (·.1))).map (DX D)
def JM : Dt → Option (List Dt)
  | .dia D => if D.es.length < 64 ∧ (D.es.map (·.1)).Nodup then some (yw D) else none
  | _ => none
theorem Nl {l ys : List Int} (nd : l.Nodup) (p : ys.Perm l) (s : ys.Pairwise (· ≤ ·)) : ys = sortI l := by
  refine lC ?_ (uZ l) fun x => by rw [nI, p.mem_iff]
  have ny := p.nodup_iff.mpr nd
  exact (s.and ny).imp fun ⟨h1, h2⟩ => by have : _ ≠ _ := h2; omega
theorem kj {K : PySem.W.Frag} {C : Cf} {S H : Hp} {D : Di} (ts : TS H S) : ∀ {ys : List Int} {vs : List V}, Paired (Dy H D) ys vs → aH K C S vs (ys.map (DX D))
  | _, _, .nil => .nil
  | _, _, .cons ⟨t, e, q, h1, h2, h3, h4⟩ r => by
    subst h1
    rw [List.map_cons]
    refine .cons ?_ (kj ts r)
    unfold DX
    rw [h2]
    exact .tup (ts _ _ h3) (.cons .int (.cons .int (.cons (.tup (ts _ _ h4) (j9 _ _)) .nil)))
section
variable {K : PySem.W.Frag} {C : Cf} {env : En} {te : TE}
theorem FU {E : XK} {o : Option Dt} (h : eu K C te env o) : eu K C (tMeth (C.c.cs "Diary") "coming" (Oa (C.c.cs "Diary")) [] E te tNil) env (o.bind P9) := fun d e B O H σ st Q q => by
  cases eo : o with
  | none => rw [eo] at e; cases e
  | some x =>
    rw [eo] at e
    cases x with
    | dia D =>
      cases e
      refine h _ eo B O H σ st _ fun H1 v s1 r1 => ?_
      cases r1 with
      | @dia A _ hl hd =>
        have hd := hd.keep aG
        obtain ⟨dx, ob⟩ := hd.ob
        exact ⟨A.q, dx, _, rfl, ob, dM A D.fo (m := "coming") (by decide +kernel) (by decide +kernel) (by decide +kernel) (by decide +kernel), A, D, rfl, hd, q H1 _ s1 .int⟩
    | _ => cases e
theorem De {E : XK} {o : Option Dt} (h : eu K C te env o) : vn K C (tMeth (C.c.cs "Diary") "rows" (Gn (C.c.cs "Diary")) [] E te tNil) env (o.bind JM) := fun ds e B O H σ st Q q => by
  cases eo : o with
  | none => rw [eo] at e; cases e
  | some x =>
    rw [eo] at e
    cases x with
    | dia D =>
      have e : (if D.es.length < 64 ∧ (D.es.map (·.1)).Nodup then some (yw D) else none) = some ds := e
      by_cases hc : D.es.length < 64 ∧ (D.es.map (·.1)).Nodup
      · rw [if_pos hc] at e
        cases e
        refine h _ eo B O H σ st _ fun H1 v s1 r1 => ?_
        cases r1 with
        | @dia A _ hl hd =>
          have hd := hd.keep aG
          obtain ⟨dx, ob⟩ := hd.ob
          refine ⟨A.q, dx, _, rfl, ob, dM A D.fo (m := "rows") (by decide +kernel) (by decide +kernel) (by decide +kernel) (by decide +kernel), A, D, rfl, hd, hc.1, fun H2 p us ys s2 np ep pm pw pd => ?_⟩
          refine q H2 p us (aS s1 s2) (jh s1 np) ep ?_
          have := Nl hc.2 pm pw
          subst this
          refine kj (fun p' xs e' => ?_) pd
          rw [aZ fun z => ?_]
          · exact e'
          · rcases z with z | z
            · exact ((st.al.keep s1).keep s2).tup e' z
            · rw [z, ep] at e'; cases e'
      · rw [if_neg hc] at e; cases e
    | _ => cases e
theorem Nh {c : Cl} {E : XK} : VS K ⟨c, none⟩ (tMake (c.cs "Diary") (TR (c.cs "Diary")) [] E tNil) env (some (.dia d0)) := fun d e B O H σ st Q q => by
  cases e
  intro x dx nx ndx hne
  refine ⟨x, dx, rfl, upd_same, fun A H5 ey ne nc nb dis fr hy => ⟨rfl, ?_⟩⟩
  subst ey
  have old : ∀ b o, H b = some o → H5 b = some o := fun b o e => by
    refine fr b o (ne_of_none e nx) ?_
    rw [upd_ne (ne_of_none e nx), upd_ne (ne_of_none e ndx)]
    exact e
  have fresh : ∀ {a : Addr}, (upd (upd H dx (.own A.q)) A.q (.ins (c.cs "Diary") dx [])) a = none → H a = none := fun {a} z => by
    by_cases e1 : a = A.q
    · rw [e1, upd_same] at z; cases z
    · rw [upd_ne e1] at z
      by_cases e2 : a = dx
      · rw [e2, upd_same] at z; cases z
      · rw [upd_ne e2] at z; exact z
  refine q H5 _ (j6 A) old (fun a ha => ⟨?_, F7 hy a ha⟩) (G5 rfl hy fun _ h => h)
  rcases ha with rfl | rfl | rfl | rfl
  · exact nx
  · exact fresh ne
  · exact fresh nc
  · exact fresh nb
end
end DY
namespace DL
open PySem PySem.Spec PyProof.Rows L2
section
variable {K : PySem.W.Frag} {C : Cf} {B O : Addr → Prop} {H : Hp} {σ : L2.St} {env : En} {te ta tb ti : TE}
theorem cG.grow (st : cG K C B O H σ env) (i : Nat) {H' : Hp} {R : Nat → Addr → Prop} (g : Ec K C B O H σ env R) {Q : Addr → Prop} (s : Same H H') (hQ : ∀ a, Q a → H a = none ∧ ∃ o, H' a = some o ∧ isTup o = false) :
    cG K C B (fun a => O a ∨ Q a) H' σ env ∧ Ec K C B (fun a => O a ∨ Q a) H' σ env (fun j a => R j a ∨ (j = i ∧ Q a)) := by
  have sub : Same (mask O H) (mask (fun a => O a ∨ Q a) H') := fun a o ha => by
    obtain ⟨n1, n2⟩ := b9 ha
    rw [aZ fun z => z.elim n1 fun y => by rw [(hQ a y).1] at n2; cases n2]
    exact s _ _ n2
  have gn : ∀ j a, R j a → H a ≠ none := fun j a ha z => by
    obtain ⟨o, e, _⟩ := st.al a (g.le j a ha).1
    rw [z] at e
    cases e
  have G : Ec K C B (fun a => O a ∨ Q a) H' σ env (fun j a => R j a ∨ (j = i ∧ Q a)) := {
    get := fun j d e => by
      obtain ⟨v, k1, k2⟩ := g.get j d e
      exact ⟨v, k1, k2.keep (iW (fun a o ha ho => ⟨.inl ha, s _ _ ho⟩) fun _ _ e => s _ _ e)⟩
    le := fun j a ha => by
      rcases ha with ha | ⟨_, ha⟩
      · exact ⟨.inl (g.le j a ha).1, (g.le j a ha).2⟩
      · exact ⟨.inr ha, fun z => st.al.new (hQ a ha).1 (st.bo a z)⟩
    dj := fun j k a h1 h2 => by
      rcases h1 with h1 | ⟨e1, h1⟩
      · rcases h2 with h2 | ⟨e2, h2⟩
        · exact g.dj j k a h1 h2
        · exact absurd (hQ a h2).1 (gn _ _ h1)
      · rcases h2 with h2 | ⟨e2, h2⟩
        · exact absurd (hQ a h1).1 (gn _ _ h2)
        · rw [e1, e2]
    ow := fun k j es p e1 e2 hp => by
      rcases hp with hp | ⟨_, hp⟩
      · exact g.ow k j es p e1 e2 hp
      · obtain ⟨p', vs', h1, h2, h3, h4, h5⟩ := st.ow j es e1
        rw [e2] at h1
        cases h1
        rw [(hQ p hp).1] at h4
        cases h4 }
  exact ⟨{
    len := st.len
    sh := fun j d e => by
      obtain ⟨v, h1, h2⟩ := st.sh j d e
      exact ⟨v, h1, h2.keep sub⟩
    ow := fun j es e => by
      obtain ⟨p', vs', h1, h2, h3, h4, h5⟩ := st.ow j es e
      exact ⟨p', vs', h1, .inl h2, h3, s _ _ h4, h5.keep sub⟩
    nd := st.nd
    al := fun a ha => ha.elim (fun z => st.al.keep s a z) fun z => (hQ a z).2
    bo := fun a ha => .inl (st.bo a ha)
    od := ⟨_, G⟩ }, G⟩
theorem Iq {i : Nat} {oi : Option Dt} (hi : eu K C ti env oi) : eu K C (tOp (bP K) (tVar i) ti) env ((xw env i).bind fun ds => oi.bind fun x => cY (.lst ds) x) := fun d e B O H σ st Q q => by
  cases eo : xw env i with
  | none => rw [eo] at e; cases e
  | some ds =>
    cases ei : oi with
    | none => rw [eo, ei] at e; cases e
    | some x =>
      rw [eo, ei] at e
      have e : cY (.lst ds) x = some d := e
      cases x with
      | int j =>
        obtain ⟨p, vs, h1, h2, h3, h4, h5⟩ := st.ow i ds (lU eo)
        refine ⟨.ref p, h1, hi _ ei B O H σ st _ fun H1 u s1 r1 => ?_⟩
        cases r1
        obtain ⟨v, e1, r⟩ := h5.atI (show L2.atI ds j = some d from e)
        exact .inl (.inl ⟨_, _, _, v, rfl, rfl, SqL.of (s1 _ _ h4), e1, q H1 v s1 (r.keep (aQ s1))⟩)
      | _ => cases e
end
end DL
namespace DL
open PySem PySem.Spec PyProof.Rows L2
section
variable {K : PySem.W.Frag} {C : Cf} {B O : Addr → Prop} {H : Hp} {σ : L2.St} {env : En} {te ta tb ti : TE}
open Classical in
theorem cG.putD (st : cG K C B O H σ env) {R : Nat → Addr → Prop} (g : Ec K C B O H σ env R) {i : Nat} {H' : Hp} {d' : Dt} {v : V} {Q : Addr → Prop} (h1 : σ[i]? = some (some v)) (fr : ∀ a o, ¬ R i a → H a = some o → H' a = some o) (ts : DY.TS H H')
    (al : ∀ a, R i a → ∃ o, H' a = some o ∧ isTup o = false) (hQ : ∀ a, Q a → H a = none ∧ ∃ o, H' a = some o ∧ isTup o = false) (rep : Rep K ⟨C.c, none⟩ (only (fun a => R i a ∨ (i = i ∧ Q a)) H') v d') :
    cG K C B (fun a => O a ∨ Q a) H' σ (env.set i (.od d')) ∧ Pg B O H (fun a => O a ∨ Q a) H' := by
  have s : Same H (fun a => if Q a then H' a else H a) := fun a o e => by
    have : ¬ Q a := fun z => by rw [(hQ a z).1] at e; cases e
    show (if Q a then H' a else H a) = _
    rw [if_neg this]; exact e
  obtain ⟨st1, g1⟩ := st.grow i g s (Q := Q) fun a z => ⟨(hQ a z).1, by
    obtain ⟨o, e, t⟩ := (hQ a z).2
    exact ⟨o, by show (if Q a then H' a else H a) = _; rw [if_pos z]; exact e, t⟩⟩
  obtain ⟨k1, k2⟩ := st1.chg g1 (i := i) (H' := H') (.od d') (fun a o hn e => by
    have nq : ¬ Q a := fun z => hn (.inr ⟨rfl, z⟩)
    have e : (if Q a then H' a else H a) = some o := e
    rw [if_neg nq] at e
    exact fr a o (fun z => hn (.inl z)) e) (fun p xs e => by
    have e : (if Q p then H' p else H p) = some (.tup xs) := e
    by_cases z : Q p
    · rw [if_pos z] at e; exact e
    · rw [if_neg z] at e; exact ts p xs e) (fun a ha => by
    rcases ha with ha | ⟨_, ha⟩
    · exact al a ha
    · exact (hQ a ha).2) (.inr ⟨_, _, rfl, h1, rep⟩)
  exact ⟨k1, (OU st s fun a z => (hQ a z).1).trans k2⟩
theorem Na {c : Cl} (st : cG K ⟨c, none⟩ B O H σ env) {R : Nat → Addr → Prop} (g : Ec K ⟨c, none⟩ B O H σ env R) {i : Nat} {H' : Hp} {A A' : DY.DA} {D D' : DY.Di} (h1 : σ[i]? = some (some (.ref A.q))) (hd : DY.IsD (c.cs "Diary") A H D) (hR : ∀ p, DY.j6 A p → R i p) (na : DY.tH A A' H) (u : DY.fz (c.cs "Diary") A A' H H' D') :
    cG K ⟨c, none⟩ B (fun a => O a ∨ (DY.j6 A' a ∧ H a = none)) H' σ (env.set i (.od (.dia D'))) ∧ Pg B O H (fun a => O a ∨ (DY.j6 A' a ∧ H a = none)) H' := by
  refine st.putD g h1 (fun a o hn e => u.fr a o e fun z => hn (hR a z)) u.ts (fun a ha => ?_) (fun a ha => ⟨ha.2, DY.F7 u.is a ha.1⟩) ?_
  · by_cases z : DY.j6 A a
    · exact u.al a z
    · obtain ⟨o, e, t⟩ := st.al a (g.le i a ha).1
      exact ⟨o, u.fr a o e z, t⟩
  · rw [← na.1]
    exact DY.G5 rfl u.is fun p hp => (na.2.2.2 p hp).imp (hR p) fun z => ⟨rfl, hp, z⟩
theorem rK {c : Cl} (st : cG K ⟨c, none⟩ B O H σ env) {i : Nat} {D : DY.Di} (hd : env[i]? = some (.od (.dia D))) : ∃ (A : DY.DA) (dx : Addr), σ[i]? = some (some (.ref A.q)) ∧ H A.q = some (.ins (c.cs "Diary") dx (DY.dS A D.fo)) ∧ DY.IsD (c.cs "Diary") A H D ∧
    ∀ H4, Same H H4 → ∀ A' H6 D', DY.tH A A' H4 → DY.fz (c.cs "Diary") A A' H4 H6 D' → ∃ O', cG K ⟨c, none⟩ B O' H6 σ (env.set i (.od (.dia D'))) ∧ Pg B O H O' H6 := by
  obtain ⟨R, g⟩ := st.od
  obtain ⟨v, h1, h2⟩ := g.get i _ hd
  obtain ⟨A, rfl, hl, hy, hR⟩ := DY.Ja h2
  obtain ⟨dx, ob⟩ := hy.ob
  refine ⟨A, dx, h1, ob, hy, fun H4 s4 A' H6 D' na u => ?_⟩
  have st4 := st.keep s4
  have g4 : Ec K ⟨c, none⟩ B O H4 σ env R := g.mono (fun _ _ e => ⟨e, rfl⟩) g.le (fun _ _ o _ e => s4 _ _ e) (fun _ _ e => s4 _ _ e) g.ow
  obtain ⟨k1, k2⟩ := Na st4 g4 h1 (hy.keep s4) hR na u
  exact ⟨_, k1, (st.pg s4).trans k2⟩
theorem Hq (A : DY.DA) (H : Hp) : DY.tH A A H := ⟨rfl, rfl, rfl, fun _ h => .inl h⟩
def mF (env : En) (i : Nat) (o : Option Dt) : Option Rs := match env[i]? with
  | some (.od (.dia D)) => o.bind fun d => match d with
    | .int n => if (DY.dH D.es n).isSome = true ∧ D.es.length < 1000 ∧ D.ch.length < 1000 then some (.nx (env.set i (.od (.dia (DY.dP D n))))) else none
    | _ => none
  | _ => none
def nC (env : En) (i : Nat) : Option Rs := match env[i]? with
  | some (.od (.dia D)) => match D.ch.getLast? with
    | some (n, x, y) => if (x = none → (DY.dH D.es n).isSome = true) ∧ D.es.length < 1000 ∧ D.ba.length < 1000 then some (.nx (env.set i (.od (.dia (DY.mW D n x y))))) else none
    | none => none
  | _ => none
theorem HK {c : Cl} {E2 : XK} {i : Nat} : lG K ⟨c, none⟩ (tDrop (tMeth (c.cs "Diary") "back" (DY.Gy (c.cs "Diary")) [] E2 (tVar i) tNil)) env (nC env i) := fun r e B O H σ st Dn p => by
  unfold nC at e
  split at e
  · next D hd =>
    split at e
    · next n x y hl =>
      split at e
      · next hc =>
        cases e
        obtain ⟨A, dx, h1, ob, hy, fin⟩ := rK st hd
        obtain ⟨L, hL⟩ : ∃ L, D.ch = L ++ [(n, x, y)] := List.getLast?_eq_some_iff.mp hl
        dsimp only [tDrop, tMeth]
        refine ⟨.ref A.q, h1, A.q, dx, _, rfl, ob, DY.dM A D.fo (m := "back") (by decide +kernel) (by decide +kernel) (by decide +kernel) (by decide +kernel), ?_⟩
        refine ⟨A, D, L, n, x, y, rfl, hy, hL, hc.1, hc.2.1, hc.2.2, fun H6 u => ?_⟩
        obtain ⟨O', k1, k2⟩ := fin H (same_refl H) A H6 _ (Hq A H) u
        exact p O' H6 σ k2 k1
      · cases e
    · cases e
  · cases e
def jF : List Dt → Option (List Key)
  | [] => some []
  | .int i :: r => (jF r).map (Sum.inl i :: ·)
  | .str s :: r => (jF r).map (Sum.inr s :: ·)
  | _ => none
theorem l6 {S : Hp} : ∀ {ds : List Dt} {vs : List V} {row : List Key}, aH K C S vs ds → jF ds = some row → vs = row.map kV ∧ ds = row.map DY.kD
  | [], _, _, r, e => by cases r; cases e; exact ⟨rfl, rfl⟩
  | d :: ds, _, _, r, e => by
    cases r with
    | @cons v _ vs _ h r =>
      cases d with
      | int i =>
        cases h
        obtain ⟨row, h, rfl⟩ := Option.map_eq_some_iff.mp (show (jF ds).map (Sum.inl i :: ·) = some _ from e)
        obtain ⟨h1, h2⟩ := l6 r h
        exact ⟨by rw [h1]; rfl, by rw [List.map_cons, ← h2]; rfl⟩
      | str z =>
        cases h
        obtain ⟨row, h, rfl⟩ := Option.map_eq_some_iff.mp (show (jF ds).map (Sum.inr z :: ·) = some _ from e)
        obtain ⟨h1, h2⟩ := l6 r h
        exact ⟨by rw [h1]; rfl, by rw [List.map_cons, ← h2]; rfl⟩
      | _ => cases e
open Classical in
noncomputable def fG (env : En) (i : Nat) (X : Option (List Dt)) : Option Rs := match env[i]? with
  | some (.od (.dia D)) => X.bind fun ds => match ds with
    | [.int n, .int day, .tup rs] => (jF rs).bind fun row => if (DY.dH D.es n).isSome = true ∧ DY.aD [.int day, .tup rs] = some .non ∧ D.es.length < 1000 ∧ D.ch.length < 1000 then some (.nx (env.set i (.od (.dia (DY.bV D n (day, row)))))) else none
    | _ => none
  | _ => none
open Classical in
theorem z9 {c : Cl} {E2 : XK} {i : Nat} {t : TA} {X : Option (List Dt)} (ho : Hg K ⟨c, none⟩ t env X) : lG K ⟨c, none⟩ (tDrop (tMeth (c.cs "Diary") "correct" (DY.q7 (c.cs "Diary")) [] E2 (tVar i) t)) env (fG env i X) := fun r e B O H σ st Dn p => by
  unfold fG at e
  split at e
  · next D hd =>
    obtain ⟨ds, eX, e⟩ := Option.bind_eq_some_iff.mp e
    split at e
    · next n day rs =>
      obtain ⟨row, er, e⟩ := Option.bind_eq_some_iff.mp e
      split at e
      · next hc =>
        cases e
        obtain ⟨A, dx, h1, ob, hy, fin⟩ := rK st hd
        obtain ⟨e0, he0⟩ := Option.isSome_iff_exists.mp hc.1
        dsimp only [tDrop, tMeth]
        refine ⟨.ref A.q, h1, A.q, dx, _, rfl, ob, DY.dM A D.fo (m := "correct") (by decide +kernel) (by decide +kernel) (by decide +kernel) (by decide +kernel), ?_⟩
        refine ho _ eX _ _ _ _ st _ fun H4 vs4 s4 r4 => ?_
        cases r4 with
        | cons r5 r4 =>
          cases r5
          cases r4 with
          | cons r5 r4 =>
            cases r5
            cases r4 with
            | cons r5 r4 =>
              cases r4
              cases r5 with
              | @tup q vs _ hq rr =>
                obtain ⟨w1, w2⟩ := l6 rr er
                subst w1
                refine ⟨A, D, n, day, q, row, e0, rfl, hy.keep s4, he0, aG _ _ hq, by rw [← w2]; exact hc.2.1, hc.2.2.1, hc.2.2.2, fun A' H6 na u => ?_⟩
                obtain ⟨O', k1, k2⟩ := fin H4 s4 A' H6 _ na u
                exact p O' H6 σ k2 k1
      · cases e
    · cases e
  · cases e
open Classical in
noncomputable def Tq (env : En) (i : Nat) (X : Option (List Dt)) : Option (DY.Di × Int) := match env[i]? with
  | some (.od (.dia D)) => X.bind fun ds => match ds with
    | [.int day, .tup rs] => (jF rs).bind fun row => if DY.aD [.int day, .tup rs] = some .non ∧ D.es.length < 1000 ∧ D.ch.length < 1000 then some (DY.aJ D (day, row), D.fo) else none
    | _ => none
  | _ => none
open Classical in
theorem OG {c : Cl} {E2 : XK} {i : Nat} {t : TA} {X : Option (List Dt)} (ho : Hg K ⟨c, none⟩ t env X) {D' : DY.Di} {n : Int} (e : Tq env i X = some (D', n)) (st : cG K ⟨c, none⟩ B O H σ env) {Q : VK} (q : ∀ O' H6, cG K ⟨c, none⟩ B O' H6 σ (env.set i (.od (.dia D'))) → Pg B O H O' H6 → Q (.int n) H6) :
    tMeth (c.cs "Diary") "enter" (DY.mU (c.cs "Diary")) [] E2 (tVar i) t σ H Q := by
  unfold Tq at e
  split at e
  · next D hd =>
    obtain ⟨ds, eX, e⟩ := Option.bind_eq_some_iff.mp e
    split at e
    · next day rs =>
      obtain ⟨row, er, e⟩ := Option.bind_eq_some_iff.mp e
      split at e
      · next hc =>
        cases e
        obtain ⟨A, dx, h1, ob, hy, fin⟩ := rK st hd
        dsimp only [tMeth]
        refine ⟨.ref A.q, h1, A.q, dx, _, rfl, ob, DY.dM A D.fo (m := "enter") (by decide +kernel) (by decide +kernel) (by decide +kernel) (by decide +kernel), ?_⟩
        refine ho _ eX _ _ _ _ st _ fun H4 vs4 s4 r4 => ?_
        cases r4 with
        | cons r5 r4 =>
          cases r5
          cases r4 with
          | cons r5 r4 =>
            cases r4
            cases r5 with
            | @tup a vs _ hq rr =>
              obtain ⟨w1, w2⟩ := l6 rr er
              subst w1
              refine ⟨A, D, day, a, row, rfl, hy.keep s4, aG _ _ hq, by rw [← w2]; exact hc.1, hc.2.1, hc.2.2, fun A' H6 na u => ?_⟩
              obtain ⟨O', k1, k2⟩ := fin H4 s4 A' H6 _ na u
              exact q O' H6 k1 k2
      · cases e
    · cases e
  · cases e
noncomputable def kG (env : En) (i : Nat) (X : Option (List Dt)) : Option Rs := (Tq env i X).map fun x => .nx (env.set i (.od (.dia x.1)))
theorem Fj {c : Cl} {E2 : XK} {i : Nat} {t : TA} {X : Option (List Dt)} (ho : Hg K ⟨c, none⟩ t env X) : lG K ⟨c, none⟩ (tDrop (tMeth (c.cs "Diary") "enter" (DY.mU (c.cs "Diary")) [] E2 (tVar i) t)) env (kG env i X) := fun r e B O H σ st Dn p => by
  obtain ⟨⟨D', n⟩, e1, rfl⟩ := Option.map_eq_some_iff.mp e
  exact OG ho e1 st fun O' H6 k1 k2 => p O' H6 σ k2 k1
noncomputable def gE (env : En) (i : Nat) (X : Option (List Dt)) (f : En → Option Dt) (m : List Dt → Option Dt) (bd : En → Option Rs) : Option Rs := (Tq env i X).bind fun x => (f (env.set i (.od (.dia x.1)))).bind fun d => (m [.int x.2, d]).bind fun r => match r with
  | .bl true => some (.nx (env.set i (.od (.dia x.1))))
  | .bl false => bd (env.set i (.od (.dia x.1)))
  | _ => none
theorem z4 {c : Cl} {E2 E3 : XK} {i : Nat} {t : TA} {X : Option (List Dt)} {m : List Dt → Option Dt} {tx : TE} {f : En → Option Dt} {tb : L2.TS} {bd : En → Option Rs} (ho : Hg K ⟨c, none⟩ t env X) (hx : ∀ e, eu K ⟨c, none⟩ tx e (f e)) (hb : ∀ e, lG K ⟨c, none⟩ tb e (bd e)) :
    lG K ⟨c, none⟩ (tIfS (tNot (tB (tCall (vj K c 2 m) [] E3 (tCons (tMeth (c.cs "Diary") "enter" (DY.mU (c.cs "Diary")) [] E2 (tVar i) t) (tCons tx tNil))))) tb tNext) env (gE env i X f m bd) := fun r e B O H σ st Dn p => by
  obtain ⟨⟨D', n⟩, e1, e⟩ := Option.bind_eq_some_iff.mp e
  obtain ⟨d, e2, e⟩ := Option.bind_eq_some_iff.mp e
  obtain ⟨b, e3, e⟩ := Option.bind_eq_some_iff.mp e
  refine OG ho e1 st fun O' H6 k1 k2 => ?_
  refine hx _ d e2 B O' H6 σ k1 _ fun H7 v s7 r7 => ?_
  have Vt := k1.keep s7
  refine ⟨none, O', [.int n, d], b, Vt.al, rfl, .cons .int (.cons r7 .nil), e3, fun H8 v8 s8 r8 => ?_⟩
  have VP := Vt.keep s8
  have VH : Pg B O H O' H8 := k2.trans ((k1.pg s7).trans (Vt.pg s8))
  cases b with
  | bl b =>
    cases r8
    refine ⟨b, rfl, ?_⟩
    cases b with
    | true =>
      cases e
      exact p O' H8 σ VH VP
    | false => exact hb _ r e B O' H8 σ VP Dn (p.weak VH)
  | _ => cases e
def eT (env : En) (i j : Nat) : Option Rs := (xw env j).bind fun ds => match ds.getLast? with
  | some (.tup (.int n :: _)) => mF (env.set j (.ow ds.dropLast)) i (some (.int n))
  | _ => none
theorem kQ {S : Hp} : ∀ {vs : List V} {ds : List Dt}, aH K C S vs ds → aH K C S vs.dropLast ds.dropLast
  | _, _, .nil => .nil
  | _, _, .cons _ .nil => .nil
  | _, _, .cons h (.cons h2 r) => .cons h (kQ (.cons h2 r))
theorem wW {S : Hp} : ∀ {vs : List V} {ds : List Dt} {d : Dt}, aH K C S vs ds → ds.getLast? = some d → ∃ v, vs[vs.length - 1]? = some v ∧ Rep K C S v d
  | _, _, _, .nil, e => by cases e
  | _, _, _, .cons h .nil, e => by cases e; exact ⟨_, rfl, h⟩
  | _, _, _, .cons h (.cons h2 r), e => by
    obtain ⟨v, h1, h3⟩ := wW (.cons h2 r) (by rw [List.getLast?_cons_cons] at e; exact e)
    exact ⟨v, h1, h3⟩
theorem vf {c : Cl} {E2 : XK} {i j : Nat} : lG K ⟨c, none⟩ (tDrop (tMeth (c.cs "Diary") "strike" (DY.vV (c.cs "Diary")) [] E2 (tVar i) (tCons (tOp (bP K) (tBM0 K "list" rPop (tVar j)) (tC (.int 0))) tNil))) env (eT env i j) := fun r e B O H σ st Dn p => by
  obtain ⟨ds, eo, e⟩ := Option.bind_eq_some_iff.mp e
  split at e
  · next n rest hl =>
    have eo := lU eo
    obtain ⟨q', vs, g1, g2, g3, g4, g5⟩ := st.ow j ds eo
    obtain ⟨v, l1, l2⟩ := wW g5 hl
    have st1 : cG K ⟨c, none⟩ B O (upd H q' (.lst vs.dropLast)) σ (env.set j (.ow ds.dropLast)) := st.upOw eo g1 (kQ g5)
    have pg1 : Pg B O H O (upd H q' (.lst vs.dropLast)) := L0 st eo g1
    unfold mF at e
    split at e
    · next D hd =>
      have e : (if (DY.dH D.es n).isSome = true ∧ D.es.length < 1000 ∧ D.ch.length < 1000 then some (Rs.nx ((env.set j (.ow ds.dropLast)).set i (.od (.dia (DY.dP D n))))) else none) = some r := e
      by_cases hc : (DY.dH D.es n).isSome = true ∧ D.es.length < 1000 ∧ D.ch.length < 1000
      · rw [if_pos hc] at e
        cases e
        have ij : ¬ j = i := fun z => by
          subst z
          rw [List.getElem?_set, if_pos rfl] at hd
          split at hd <;> cases hd
        have hd0 : env[i]? = some (.od (.dia D)) := by rw [List.getElem?_set_ne ij] at hd; exact hd
        obtain ⟨A, dx, h1, ob, hy, _⟩ := rK st hd0
        obtain ⟨A1, dx1, k1, ob1, hy1, fin⟩ := rK st1 hd
        have eq : A1.q = A.q := by rw [h1] at k1; exact (V.ref.inj (Option.some.inj (Option.some.inj k1))).symm
        obtain ⟨e0, he0⟩ := Option.isSome_iff_exists.mp hc.1
        cases l2 with
        | @tup tp tvs _ ht rr =>
          cases rr with
          | cons r0 rr =>
            cases r0
            have ht := aG _ _ ht
            have hq : tp ≠ q' := fun z => by rw [z, g4] at ht; cases ht
            dsimp only [tDrop, tMeth]
            refine ⟨.ref A.q, h1, A.q, dx, _, rfl, ob, DY.dM A D.fo (m := "strike") (by decide +kernel) (by decide +kernel) (by decide +kernel) (by decide +kernel), ?_⟩
            refine ⟨_, g1, .inl ⟨rfl, _, SqL.of g4⟩, q', vs, _, rfl, rfl, g4, l1, ?_⟩
            refine .inl (.inr (.inl ⟨tp, _, 0, _, rfl, rfl, SqT.of (by rw [upd_ne hq]; exact ht), L2.atI_nat (j := 0) rfl, ?_⟩))
            rw [← eq]
            refine ⟨A1, D, n, e0, rfl, hy1, he0, hc.2.1, hc.2.2, fun A' H6 na u => ?_⟩
            obtain ⟨O', m1, m2⟩ := fin _ (same_refl _) A' H6 _ na u
            exact p O' H6 σ (pg1.trans m2) m1
      · rw [if_neg hc] at e; cases e
    · cases e
  · cases e
end
end DL
namespace DL
open PySem PySem.Spec PyProof.Rows L2
def Mj : Dt → Option Str
  | .str y => if y.length ≤ 100000 then some y else none
  | .int i => if i.natAbs.log2 < 1920 then some (toString i) else none
  | _ => none
def Nd : List (Option Dt) → Str → Option Str
  | [], acc => some acc
  | o :: r, acc => o.bind fun d => (Mj d).bind fun y => if (acc ++ y).length ≤ 100000 then Nd r (acc ++ y) else none
theorem K8 {s y : Str} (h : Mj (.str s) = some y) : y = s ∧ s.length ≤ 100000 := by
  by_cases hs : s.length ≤ 100000
  · rw [show Mj (.str s) = some s from if_pos hs] at h
    exact ⟨(Option.some.inj h).symm, hs⟩
  · rw [show Mj (.str s) = none from if_neg hs] at h; cases h
theorem Qq {i : Int} {y : Str} (h : Mj (.int i) = some y) : y = toString i ∧ i.natAbs.log2 < 1920 := by
  by_cases hs : i.natAbs.log2 < 1920
  · rw [show Mj (.int i) = some (toString i) from if_pos hs] at h
    exact ⟨(Option.some.inj h).symm, hs⟩
  · rw [show Mj (.int i) = none from if_neg hs] at h; cases h
section
variable {K : PySem.W.Frag} {C : Cf} {env : En}
inductive JD (K : PySem.W.Frag) (C : Cf) (env : En) : List TE → List (Option Dt) → Prop
  | nil : JD K C env [] []
  | c {s : Str} {ts : List TE} {os : List (Option Dt)} : JD K C env ts os → JD K C env (tC (.str s) :: ts) (some (.str s) :: os)
  | f {te : TE} {o : Option Dt} {ts : List TE} {os : List (Option Dt)} : eu K C te env o → JD K C env ts os → JD K C env (tFmt te :: ts) (o :: os)
theorem BB {n : Nat} (h : n ≤ 100000) : n ≤ sizeLine := Nat.le_trans h (by decide)
theorem EO {B O : Addr → Prop} {σ : L2.St} : ∀ {ts : List TE} {os : List (Option Dt)}, JD K C env ts os → ∀ (acc : Str) {H : Hp}, cG K C B O H σ env → ∀ {z : Str}, Nd os acc = some z → ∀ Q : Str → Hp → Prop, (∀ H', Same H H' → Q z H') → tJs ts acc σ H Q
  | _, _, .nil, acc, H, st, z, e, Q, q => by cases e; exact q H (same_refl H)
  | _, _, .c (s := s) (os := os) r, acc, H, st, z, e, Q, q => by
    have e0 : (Mj (.str s)).bind (fun y => if (acc ++ y).length ≤ 100000 then Nd os (acc ++ y) else none) = some z := e
    clear e
    obtain ⟨y, e1, e⟩ := Option.bind_eq_some_iff.mp e0
    have ey := (K8 e1).1
    subst ey
    by_cases hl : (acc ++ y).length ≤ 100000
    · rw [if_pos hl] at e
      exact ⟨y, rfl, BB hl, EO r _ st e Q q⟩
    · rw [if_neg hl] at e; cases e
  | _, _, .f (te := te) (o := o) h r, acc, H, st, z, e, Q, q => by
    obtain ⟨d, eo, e⟩ := Option.bind_eq_some_iff.mp e
    obtain ⟨y, e1, e⟩ := Option.bind_eq_some_iff.mp e
    by_cases hl : (acc ++ y).length ≤ 100000
    · rw [if_pos hl] at e
      refine h _ eo B O H σ st _ fun H1 v s1 r1 => ?_
      have fin : ∃ w : Str, V.str y = V.str w ∧ (acc ++ w).length ≤ sizeLine ∧ tJs _ (acc ++ w) σ H1 Q := ⟨y, rfl, BB hl, EO r _ (st.keep s1) e Q fun H' s2 => q H' (aS s1 s2)⟩
      cases d with
      | str s =>
        obtain ⟨ey, hs⟩ := K8 e1
        subst ey
        cases r1
        exact .inl ⟨_, rfl, BB hs, fin⟩
      | int i =>
        obtain ⟨ey, hs⟩ := Qq e1
        subst ey
        cases r1
        exact .inr ⟨_, rfl, hs, fin⟩
      | _ => cases e1
    · rw [if_neg hl] at e; cases e
theorem Pq {ts : List TE} {os : List (Option Dt)} (h : JD K C env ts os) : eu K C (fun σ H Q => tJs ts Str.empty σ H fun out H1 => Q (.str out) H1) env ((Nd os Str.empty).map Dt.str) := fun d e B O H σ st Q q => by
  obtain ⟨z, e1, rfl⟩ := Option.map_eq_some_iff.mp e
  exact EO h Str.empty st e1 _ fun H' s => q H' _ s .str
end
end DL
namespace DY
open PySem PySem.Spec PyProof.Rows L2 DL
abbrev kL : Stmt := ak 77
abbrev oz : List Str := ["diary", "rows", "number", "day", "deed"]
theorem gK : FnScope oz ["diary"] (defScope kL) := ⟨rfl, rfl, rfl, by decide +kernel, rfl, by decide +kernel, by decide +kernel⟩
abbrev jU : Stmt := ak 79
abbrev pQ : List Str := ["_law_script", "_law_many", "_law_feed_here", "_law_salt", "_law_cell", "_law_rest", "_law_k"]
theorem bJ : FnScope pQ ["_law_script", "_law_many"] (defScope jU) := ⟨rfl, rfl, rfl, by decide +kernel, rfl, by decide +kernel, by decide +kernel⟩
abbrev gv : Stmt := ak 81
abbrev ju : List Str := ["_law_d", "_law_many", "_law_letters", "_law_base", "_law_at", "_law_names_here", "_law_k", "_law_sign"]
theorem bK : FnScope ju ["_law_d", "_law_many"] (defScope gv) := ⟨rfl, rfl, rfl, by decide +kernel, rfl, by decide +kernel, by decide +kernel⟩
abbrev eW : Stmt := ak 82
abbrev gZ : List Str := ["_law_deed", "_law_thing"]
theorem gc : FnScope gZ ["_law_deed"] (defScope eW) := ⟨rfl, rfl, rfl, by decide +kernel, rfl, by decide +kernel, by decide +kernel⟩
abbrev iu : Stmt := ak 83
abbrev jT : List Str := ["_law_rows", "_law_coming", "_law_lines", "_law_number", "_law_day", "_law_deed", "_law_line"]
theorem dB : FnScope jT ["_law_rows", "_law_coming"] (defScope iu) := ⟨rfl, rfl, rfl, by decide +kernel, rfl, by decide +kernel, by decide +kernel⟩
abbrev gk : Stmt := ak 84
abbrev jH : List Str := ["_law_names_here", "_law_d", "_law_name", "_law_other", "_law_lefts", "_law_left", "_law_some"]
theorem bF : FnScope jH ["_law_names_here", "_law_d"] (defScope gk) := ⟨rfl, rfl, rfl, by decide +kernel, rfl, by decide +kernel, by decide +kernel⟩
abbrev fL : Stmt := ak 85
abbrev iR : List Str := ["_law_feed_here", "_law_names_here", "_law_many", "_law_rows", "_law_number", "_law_k", "_law_d"]
theorem bQ : FnScope iR ["_law_feed_here", "_law_names_here", "_law_many"] (defScope fL) := ⟨rfl, rfl, rfl, by decide +kernel, rfl, by decide +kernel, by decide +kernel⟩
abbrev wO : Stmt := ak 86
abbrev Of : List Str := ["_law_script", "_law_feed_here", "_law_names_here", "_law_diary", "_law_rows", "_law_coming", "_law_number", "_law_day", "_law_deed", "_law_turn"]
theorem fh : FnScope Of ["_law_script"] (defScope wO) := ⟨rfl, rfl, rfl, by decide +kernel, rfl, by decide +kernel, by decide +kernel⟩
structure TL (w : World) (K : PySem.W.Frag) (mg : Str → Option Value) extends TD w K mg where
  AZ : mg "list" = none
  jC : mg "range" = none
  cg : bZ K mg "written" kL ["diary"]
  dY : bZ K mg "_law_feed" jU ["_law_script", "_law_many"]
  dh : bZ K mg "_law_names" gv ["_law_d", "_law_many"]
  cu : bZ K mg "_law_text_of" eW ["_law_deed"]
  bh : bZ K mg "_law_page" iu ["_law_rows", "_law_coming"]
  bU : bZ K mg "_law_free_row" gk ["_law_names_here", "_law_d"]
  bE : bZ K mg "_law_free_rows" fL ["_law_feed_here", "_law_names_here", "_law_many"]
  pI : bZ K mg "law" wO ["_law_script"]
  aE : bZ K mg "_law_same" fY ["_law_found", "_law_due"]
section
variable {P : Program} {w : World} {K : PySem.W.Frag} {mg : Str → Option Value} {base : Heap}
theorem Bt (T : TL w K mg) : FnOk P w K mg base CX0 7 T.aE.a T.aE.d ["_law_found", "_law_due"] (vj K T.k 2 aO) := by
  refine (GO (P := P) (w := w) (base := base) T.aE.F T.aE.b T.aE.g ⟨T.d9, T.su, T.AZ, T.qC, T.jd, T.DO, T.Ge, T.mR, T.CK⟩ 6).imp fun vs H Q E h => ?_
  obtain ⟨lk, O, ds, d, al, hn, r, e, q⟩ := h
  unfold aO at e
  split at e
  · next hx =>
    cases e
    obtain ⟨x, rfl, hp⟩ := hx
    cases r with
    | cons r1 r =>
      cases r with
      | cons r2 r =>
        cases r
        exact ⟨_, _, rfl, Rb aG hp r1 r2, fun H' s => q H' _ s .bl⟩
  · cases e
noncomputable def nA (e : En) : Option Rs :=
    (aN (eU ((kT ((((ao e 0).bind JM).map Dt.lst).bind sD) (fD (jM 3 (bw (fName 2) (bw (fName 3) (bw (fName 4) kM)))) (fun e => (some true)) (fun e => ((ai (ao e 2) (ai (ao e 3) (ai (ao e 4) (some [])))).bind (ar 3 fP))) (fZ e [2, 3, 4]))).map Dt.lst) (fName 1) e) fun e =>
    ((o2 cA ((Nd [(some (Dt.str "next ")), ((ao e 0).bind P9), (some (Dt.str "\n"))] Str.empty).map Dt.str) (gu (some (Dt.str "")) (ao e 1))).map Rs.rt))
noncomputable def dZ (ds : List Dt) : Option Dt := (nA (o4 5 ds)).bind gj
theorem Ef (T : TL w K mg) : FnOk P w K mg base CX0 3 T.cg.a T.cg.d ["diary"] (vj K T.k 1 dZ) := by
  have vt := rq (P := P) (w := w) (base := base) T.toTB
  have Ht := qd (P := P) (w := w) (base := base) T.toTB
  have xO := kW (P := P) (w := w) (base := base) T.toTB
  refine T.cg.F.ok gK (fun vs H Q E h => d_len h) (fun cdv A outer s H vs Q E hr h => ?_)
  have hu := hu_of hr
  refine ⟨_, pss_cons (ps_setLc (i := 1) (own := [("number", 2), ("day", 3), ("deed", 4)]) (g := (gTup K 3 (gCons (gName 2) (gCons (gName 3) (gCons (gName 4) gNil))))) (tt := tYes) (by rfl) gK.nd rfl rfl (sw_true rfl rfl rfl (by decide +kernel)) (lM (pe_meth0 (pv 0) T.az T.cE.m xO (hr.mono (by decide)) T.cE.b .nil pass0)) (blkOk_by (N := oz) (sc := defScope kL) (by decide +kernel)) (fun _ _ _ _ _ => (pg_tup rfl (pgs_cons (pg_name (i := 2) gK.nd rfl (Or.inl rfl)) (pgs_cons (pg_name (i := 3) gK.nd rfl (Or.inl rfl)) (pgs_cons (pg_name (i := 4) gK.nd rfl (Or.inl rfl)) pgs_nil))))) (fun _ _ _ _ _ => pts_nil) (fun _ _ _ _ _ => (pe_call vt (hr.mono (by decide)) (by rfl) T.cJ.g T.cJ.F.kp T.cJ.b .nil pass0 (pa_cons (pv 2) (pa_cons (pv 3) (pa_cons (pv 4) pa_nil))))))
      (pss_one (ps_ret (pe_op (r := bO K) aK (pe_joined (PJ.cons pe_str (PJ.cons (pe_fmt (pe_meth0 (pv 0) T.az T.cV.m Ht (hr.mono (by decide)) T.cV.b .nil pass0)) (PJ.cons pe_str PJ.nil)))) (show PE _ _ (tM1 (rJoin K) _ _) from pe_join pe_str (pv 1))))), ?_⟩
  exact gU (N := oz) (b := nA) (fun lk e => (av (bR (vn.d (qZ (vs := [2, 3, 4]) (jv (vn.d (De (aa 0)))) (kJ (bB (fun _ _ _ x y => x.trans y) (fF 2 (by decide)) (bB (fun _ _ _ x y => x.trans y) (fF 3 (by decide)) (bB (fun _ _ _ x y => x.trans y) (fF 4 (by decide)) (iZ fun _ => rfl))))) (fun e => lX) (fun e => (aP (af (aa 2) (af (aa 3) (af (aa 4) au))))))) (ay 1)) fun e => (dO (aj bu (Pq (JD.c (JD.f (FU (aa 0)) (JD.c JD.nil)))) (iT (aM "") (aa 1)))))) h
noncomputable def fN (e : En) : Option Rs :=
    (CA ((o2 (BX fun i j => decide (j < i)) (ao e 5) (some (Dt.int 0))).bind bD) (aN (jO e 2 (o2 dD (ao e 5) (some (Dt.int 1009)))) fun e =>
    (eU (o2 HP (ao e 5) (some (Dt.int 1009))) (fName 5) e)) (some (Rs.nx e)))
noncomputable def fV (e : En) : Option Rs :=
    (aN (eU (o2 dD (o2 cA (o2 cA (o2 jN (ao e 3) (some (Dt.int 48271))) (o2 dD (ao e 4) (some (Dt.int 2147483629)))) (some (Dt.int 7))) (some (Dt.int 2147483647))) (fName 3) e) fun e =>
    (aN (eU (o2 Du (ao e 4) (o2 FG (some (Dt.int 10)) (some (Dt.int 18)))) (fName 5) e) fun e =>
    (aN (CA ((o2 (BX fun i j => decide (i < j)) (ao e 5) (some (Dt.int 0))).bind bD) (jO e 2 (o2 dD (ao e 4) (some (Dt.int 1000003)))) (some (Rs.nx e))) fun e =>
    (((ai (some (Dt.int 60)) (some [])).bind lE).bind fun xs => bz (fName 6) fN xs e))))
noncomputable def iE (e : En) : Option Rs :=
    (aN (eU (o2 dD (o2 cA (o2 cA (o2 cA (o2 jN (o2 jN (ao e 3) (ao e 3)) (ao e 3)) (o2 jN (some (Dt.int 69621)) (ao e 3))) (o2 jN (some (Dt.int 17)) (ao e 6))) (some (Dt.int 3))) (some (Dt.int 2147483629))) (fName 3) e) fun e =>
    (jO e 2 (o2 dD (o2 HP (ao e 3) (some (Dt.int 1013))) (some (Dt.int 1009)))))
noncomputable def jX (e : En) : Option Rs :=
    (aN (((some []).bind vm).map fun ds => Rs.nx (e.set 2 (Sl.ow ds))) fun e =>
    (aN (eU (some (Dt.int 71)) (fName 3) e) fun e =>
    (aN (((HM (ao e 0) (some none) ((some (Dt.int 63)).bind iD)).bind sD).bind fun xs => bz (fName 4) fV xs e) fun e =>
    (aN (((ai (o2 Du (ao e 1) (Vb (frz e 2) fun e => ((ai (ao e 2) (some [])).bind qh))) (some [])).bind lE).bind fun xs => bz (fName 6) iE xs e) fun e =>
    (MW (frz e 2) fun e => ((HM (ao e 2) (some none) ((ao e 1).bind iD)).map Rs.rt))))))
noncomputable def eS (ds : List Dt) : Option Dt := (jX (o4 7 ds)).bind gj
theorem Bp (T : TL w K mg) : FnOk P w K mg base CX0 1 T.dY.a T.dY.d ["_law_script", "_law_many"] (vj K T.k 2 eS) := by
  refine T.dY.F.ok bJ (fun vs H Q E h => d_len h) (fun cdv A outer s H vs Q E hr h => ?_)
  have hu := hu_of hr
  refine ⟨_, pss_cons (ps_set (i := 2) bJ.nd rfl (Or.inl rfl) (pe_lst pa_nil))
      (pss_cons (ps_set (i := 3) bJ.nd rfl (Or.inl rfl) pe_int)
      (pss_cons (ps_for PassesOwn.never rfl (lM (pe_slice (r := gQ K) jf (pv 0) po_none (po_some pe_int))) (pg_name (i := 4) bJ.nd rfl (Or.inl rfl)) (pss_cons (ps_set (i := 3) bJ.nd rfl (Or.inl rfl) (pe_op op_modN (pe_op (r := bO K) aK (pe_op (r := bO K) aK (pe_op (r := iP) eY (pv 3) pe_int) (pe_op op_modN (pv 4) pe_int)) pe_int) pe_int))
      (pss_cons (ps_set (i := 5) bJ.nd rfl (Or.inl rfl) (pe_op op_sub (pv 4) (pe_op op_pow pe_int pe_int)))
      (pss_cons (ps_if (pt_cmpR op_lt (pv 5) pe_int (nomark _)) (pss_one (ps_expr (pe_bm PySem.F.plainAttrs_list PySem.F.slot_list_append PySem.F.type_list_append mt_append (pv 2) (pa_cons (pe_op op_modN (pv 4) pe_int) pa_nil)))) pss_nil)
      (pss_one (ps_for PassesOwn.never rfl (pi_range1 rfl T.jC (pa_cons pe_int pa_nil)) (pg_name (i := 6) bJ.nd rfl (Or.inl rfl)) (pss_one (ps_if (pt_cmpR op_gt (pv 5) pe_int (nomark _)) (pss_cons (ps_expr (pe_bm PySem.F.plainAttrs_list PySem.F.slot_list_append PySem.F.type_list_append mt_append (pv 2) (pa_cons (pe_op op_modN (pv 5) pe_int) pa_nil)))
      (pss_one (ps_set (i := 5) bJ.nd rfl (Or.inl rfl) (pe_op qQ (pv 5) pe_int)))) pss_nil))))))))
      (pss_cons (ps_for PassesOwn.never rfl (pi_range1 rfl T.jC (pa_cons (pe_op op_sub (pv 1) (pe_callB (r := mQ K) fK (by rfl) T.jd (by decide +kernel) (pa_cons (pv 2) pa_nil))) pa_nil)) (pg_name (i := 6) bJ.nd rfl (Or.inl rfl)) (pss_cons (ps_set (i := 3) bJ.nd rfl (Or.inl rfl) (pe_op op_modN (pe_op (r := bO K) aK (pe_op (r := bO K) aK (pe_op (r := bO K) aK (pe_op (r := iP) eY (pe_op (r := iP) eY (pv 3) (pv 3)) (pv 3)) (pe_op (r := iP) eY pe_int (pv 3))) (pe_op (r := iP) eY pe_int (pv 6))) pe_int) pe_int))
      (pss_one (ps_expr (pe_bm PySem.F.plainAttrs_list PySem.F.slot_list_append PySem.F.type_list_append mt_append (pv 2) (pa_cons (pe_op op_modN (pe_op qQ (pv 3) pe_int) pe_int) pa_nil))))))
      (pss_one (ps_ret (pe_slice (r := gQ K) jf (pv 2) po_none (po_some (pv 1)))))))), ?_⟩
  exact gU (N := pQ) (b := jX) (fun lk e => (av (ir (dJ au)) fun e => (av (bR (ah 71) (ay 3)) fun e => (av (fW (jv (jA (aa 0) gX (dU (ah 63)))) (ay 4) (fun e => (av (bR (aj br (aj bu (aj bu (aj gR (aa 3) (ah 48271)) (aj br (aa 4) (ah 2147483629))) (ah 7)) (ah 2147483647)) (ay 3)) fun e => (av (bR (aj nS (aa 4) (aj EI (ah 10) (ah 18))) (ay 5)) fun e => (av (gH (bg (aj nW (aa 5) (ah 0))) (cL (aj br (aa 4) (ah 1000003))) dW) fun e => (fW (jc (af (ah 60) au)) (ay 6) (fun e => (gH (bg (aj nW (aa 5) (ah 0))) (av (cL (aj br (aa 5) (ah 1009))) fun e => (bR (aj FY (aa 5) (ah 1009)) (ay 5))) dW)))))))) fun e => (av (fW (jc (af (aj nS (aa 1) (GC 2 (fc lF (af (aa 2) au)))) au)) (ay 6) (fun e => (av (bR (aj br (aj bu (aj bu (aj bu (aj gR (aj gR (aa 3) (aa 3)) (aa 3)) (aj gR (ah 69621) (aa 3))) (aj gR (ah 17) (aa 6))) (ah 3)) (ah 2147483629)) (ay 3)) fun e => (cL (aj br (aj FY (aa 3) (ah 1013)) (ah 1009)))))) fun e => (jw 2 (dO (jA (aa 2) gX (dU (aa 1)))))))))) h
noncomputable def gP (e : En) : Option Rs :=
    (aN (eU (o2 cY (ao e 2) (o2 dD (o2 cA (o2 cY (ao e 0) (some (Dt.int 3))) (o2 jN (some (Dt.int 7)) (ao e 6))) (some (Dt.int 26)))) (fName 7) e) fun e =>
    (jO e 5 (o2 cA (o2 cA (HM (ao e 3) (some none) ((ao e 4).bind iD)) (ao e 7)) (HM (ao e 3) ((ao e 4).bind iD) (some none)))))
noncomputable def jo (e : En) : Option Rs :=
    (aN (eU (some (Dt.str "abcdefghijklmnopqrstuvwxyz")) (fName 2) e) fun e =>
    (aN (eU (gu (some (Dt.str "")) ((kT ((ai (o2 dD (o2 cY (ao e 0) (some (Dt.int 1))) (some (Dt.int 8))) (some [])).bind lE) (fD (fName 6) (fun e => (some true)) (fun e => (o2 cY (ao e 2) (o2 dD (o2 cA (o2 cY (ao e 0) (some (Dt.int 0))) (o2 jN (o2 cA (ao e 6) (some (Dt.int 1))) (o2 HP (o2 cY (ao e 0) (some (Dt.int 1))) (some (Dt.int 8))))) (some (Dt.int 26))))) (fZ e [6]))).map Dt.lst)) (fName 3) e) fun e =>
    (aN (eU (o2 dD (o2 cY (ao e 0) (some (Dt.int 2))) (o2 cA ((ai (ao e 3) (some [])).bind qh) (some (Dt.int 1)))) (fName 4) e) fun e =>
    (aN (((some []).bind vm).map fun ds => Rs.nx (e.set 5 (Sl.ow ds))) fun e =>
    (aN (((ai (ao e 1) (some [])).bind lE).bind fun xs => bz (fName 6) gP xs e) fun e =>
    (MW (frz e 5) fun e => ((ao e 5).map Rs.rt)))))))
noncomputable def eg (ds : List Dt) : Option Dt := (jo (o4 8 ds)).bind gj
theorem vB (T : TL w K mg) : FnOk P w K mg base CX0 1 T.dh.a T.dh.d ["_law_d", "_law_many"] (vj K T.k 2 eg) := by
  refine T.dh.F.ok bK (fun vs H Q E h => d_len h) (fun cdv A outer s H vs Q E hr h => ?_)
  have hu := hu_of hr
  refine ⟨_, pss_cons (ps_set (i := 2) bK.nd rfl (Or.inr rfl) pe_str)
      (pss_cons (ps_set (i := 3) bK.nd rfl (Or.inl rfl) (show PE _ _ (tM1 (rJoin K) _ _) from pe_join pe_str (pe_lc (own := [("_law_k", 6)]) (g := (gName 6)) (tt := tYes) (by rfl) bK.nd (pi_range1 rfl T.jC (pa_cons (pe_op op_modN (pe_ix (r := bP K) (aF hu) (pv 0) pe_int (fun _ _ => rfl)) pe_int) pa_nil)) (blkOk_by (N := ju) (sc := defScope gv) (by decide +kernel)) (fun _ _ _ _ _ => (pg_name (i := 6) bK.nd rfl (Or.inl rfl))) (fun _ _ _ _ _ => pts_nil) (fun _ _ _ _ _ => (pe_ix (r := bP K) (aF hu) (pv 2) (pe_op op_modN (pe_op (r := bO K) aK (pe_ix (r := bP K) (aF hu) (pv 0) pe_int (fun _ _ => rfl)) (pe_op (r := iP) eY (pe_op (r := bO K) aK (pv 6) pe_int) (pe_op qQ (pe_ix (r := bP K) (aF hu) (pv 0) pe_int (fun _ _ => rfl)) pe_int))) pe_int) (fun _ _ => rfl))))))
      (pss_cons (ps_set (i := 4) bK.nd rfl (Or.inl rfl) (pe_op op_modN (pe_ix (r := bP K) (aF hu) (pv 0) pe_int (fun _ _ => rfl)) (pe_op (r := bO K) aK (pe_callB (r := mQ K) fK (by rfl) T.jd (by decide +kernel) (pa_cons (pv 3) pa_nil)) pe_int)))
      (pss_cons (ps_set (i := 5) bK.nd rfl (Or.inl rfl) (pe_lst pa_nil))
      (pss_cons (ps_for PassesOwn.never rfl (pi_range1 rfl T.jC (pa_cons (pv 1) pa_nil)) (pg_name (i := 6) bK.nd rfl (Or.inl rfl)) (pss_cons (ps_set (i := 7) bK.nd rfl (Or.inl rfl) (pe_ix (r := bP K) (aF hu) (pv 2) (pe_op op_modN (pe_op (r := bO K) aK (pe_ix (r := bP K) (aF hu) (pv 0) pe_int (fun _ _ => rfl)) (pe_op (r := iP) eY pe_int (pv 6))) pe_int) (fun _ _ => rfl)))
      (pss_one (ps_expr (pe_bm PySem.F.plainAttrs_list PySem.F.slot_list_append PySem.F.type_list_append mt_append (pv 5) (pa_cons (pe_op (r := bO K) aK (pe_op (r := bO K) aK (pe_slice (r := gQ K) jf (pv 3) po_none (po_some (pv 4))) (pv 7)) (pe_slice (r := gQ K) jf (pv 3) (po_some (pv 4)) po_none)) pa_nil))))))
      (pss_one (ps_ret (pv 5))))))), ?_⟩
  exact gU (N := ju) (b := jo) (fun lk e => (av (bR (aM "abcdefghijklmnopqrstuvwxyz") (ay 2)) fun e => (av (bR (iT (aM "") (vn.d (qZ (vs := [6]) (jc (af (aj br (aj bf (aa 0) (ah 1)) (ah 8)) au)) (fF 6 (by decide)) (fun e => lX) (fun e => (aj bf (aa 2) (aj br (aj bu (aj bf (aa 0) (ah 0)) (aj gR (aj bu (aa 6) (ah 1)) (aj FY (aj bf (aa 0) (ah 1)) (ah 8)))) (ah 26))))))) (ay 3)) fun e => (av (bR (aj br (aj bf (aa 0) (ah 2)) (aj bu (fc lF (af (aa 3) au)) (ah 1))) (ay 4)) fun e => (av (ir (dJ au)) fun e => (av (fW (jc (af (aa 1) au)) (ay 6) (fun e => (av (bR (aj bf (aa 2) (aj br (aj bu (aj bf (aa 0) (ah 3)) (aj gR (ah 7) (aa 6))) (ah 26))) (ay 7)) fun e => (cL (aj bu (aj bu (jA (aa 3) gX (dU (aa 4))) (aa 7)) (jA (aa 3) (dU (aa 4)) gX)))))) fun e => (jw 5 (dO (aa 5))))))))) h
noncomputable def gW (e : En) : Option Rs :=
    ((gu (some (Dt.str " ")) ((kT ((ao e 0).bind sD) (fD (fName 1) (fun e => (some true)) (fun e => (Qo ((o2 (lK false) (ao e 1) (some (Dt.str ""))).bind bD) (some (Dt.str "-")) ((ai (ao e 1) (some [])).bind qa))) (fZ e [1]))).map Dt.lst)).map Rs.rt)
noncomputable def eZ (ds : List Dt) : Option Dt := (gW (o4 2 ds)).bind gj
theorem qi (T : TL w K mg) : FnOk P w K mg base CX0 1 T.cu.a T.cu.d ["_law_deed"] (vj K T.k 1 eZ) := by
  refine T.cu.F.ok gc (fun vs H Q E h => d_len h) (fun cdv A outer s H vs Q E hr h => ?_)
  have hu := hu_of hr
  refine ⟨_, pss_one (ps_ret (show PE _ _ (tM1 (rJoin K) _ _) from pe_join pe_str (pe_lc (own := [("_law_thing", 1)]) (g := (gName 1)) (tt := tYes) (by rfl) gc.nd (lM (pv 0)) (blkOk_by (N := gZ) (sc := defScope eW) (by decide +kernel)) (fun _ _ _ _ _ => (pg_name (i := 1) gc.nd rfl (Or.inl rfl))) (fun _ _ _ _ _ => pts_nil) (fun _ _ _ _ _ => (pe_ifExp (pt_cmpR (r := rEqD K) (op_eqD hr.units) (pv 1) pe_str (nomark _)) pe_str (pe_callTy fJ (by rfl) T.mR (by decide +kernel) (pa_cons (pv 1) pa_nil))))))), ?_⟩
  exact gU (N := gZ) (b := gW) (fun lk e => (dO (iT (aM " ") (vn.d (qZ (vs := [1]) (jv (aa 0)) (fF 1 (by decide)) (fun e => lX) (fun e => (Jk (bg (aj l9 (aa 1) (aM ""))) (aM "-") (fc lI (af (aa 1) au))))))))) h
noncomputable def eE (e : En) : Option Rs :=
    (jO e 2 (gu (some (Dt.str " ")) (((ai ((ai (ao e 3) (some [])).bind qa) (ai ((ai (ao e 4) (some [])).bind qa) (ai ((ai (ao e 5) (some [])).bind (ar 1 eZ)) (some [])))).bind vm).map Dt.lst)))
noncomputable def kh (e : En) : Option Rs :=
    (aN (((ai (o2 cA (some (Dt.str "next ")) ((ai (ao e 1) (some [])).bind qa)) (some [])).bind vm).map fun ds => Rs.nx (e.set 2 (Sl.ow ds))) fun e =>
    (aN (((ao e 0).bind sD).bind fun xs => bz (jM 3 (bw (fName 3) (bw (fName 4) (bw (fName 5) kM)))) eE xs e) fun e =>
    ((Vb (frz e 2) fun e => (gu (some (Dt.str "")) ((kT ((ao e 2).bind sD) (fD (fName 6) (fun e => (some true)) (fun e => (o2 cA (ao e 6) (some (Dt.str "\n")))) (fZ e [6]))).map Dt.lst))).map Rs.rt)))
noncomputable def cF (ds : List Dt) : Option Dt := (kh (o4 7 ds)).bind gj
theorem Aj (T : TL w K mg) : FnOk P w K mg base CX0 2 T.bh.a T.bh.d ["_law_rows", "_law_coming"] (vj K T.k 2 cF) := by
  have tR := qi (P := P) (w := w) (base := base) T
  refine T.bh.F.ok dB (fun vs H Q E h => d_len h) (fun cdv A outer s H vs Q E hr h => ?_)
  have hu := hu_of hr
  refine ⟨_, pss_cons (ps_set (i := 2) dB.nd rfl (Or.inl rfl) (pe_lst (pa_cons (pe_op (r := bO K) aK pe_str (pe_callTy fJ (by rfl) T.mR (by decide +kernel) (pa_cons (pv 1) pa_nil))) pa_nil)))
      (pss_cons (ps_for PassesOwn.never rfl (lM (pv 0)) (pg_tup rfl (pgs_cons (pg_name (i := 3) dB.nd rfl (Or.inl rfl)) (pgs_cons (pg_name (i := 4) dB.nd rfl (Or.inl rfl)) (pgs_cons (pg_name (i := 5) dB.nd rfl (Or.inl rfl)) pgs_nil)))) (pss_one (ps_expr (pe_bm PySem.F.plainAttrs_list PySem.F.slot_list_append PySem.F.type_list_append mt_append (pv 2) (pa_cons (show PE _ _ (tM1 (rJoin K) _ _) from pe_join pe_str (pe_lst (pa_cons (pe_callTy fJ (by rfl) T.mR (by decide +kernel) (pa_cons (pv 3) pa_nil)) (pa_cons (pe_callTy fJ (by rfl) T.mR (by decide +kernel) (pa_cons (pv 4) pa_nil)) (pa_cons (pe_call tR (hr.mono (by decide)) (by rfl) T.cu.g T.cu.F.kp T.cu.b .nil pass0 (pa_cons (pv 5) pa_nil)) pa_nil))))) pa_nil)))))
      (pss_one (ps_ret (show PE _ _ (tM1 (rJoin K) _ _) from pe_join pe_str (pe_lc (own := [("_law_line", 6)]) (g := (gName 6)) (tt := tYes) (by rfl) dB.nd (lM (pv 2)) (blkOk_by (N := jT) (sc := defScope iu) (by decide +kernel)) (fun _ _ _ _ _ => (pg_name (i := 6) dB.nd rfl (Or.inl rfl))) (fun _ _ _ _ _ => pts_nil) (fun _ _ _ _ _ => (pe_op (r := bO K) aK (pv 6) pe_str))))))), ?_⟩
  exact gU (N := jT) (b := kh) (fun lk e => (av (ir (dJ (af (aj bu (aM "next ") (fc lI (af (aa 1) au))) au))) fun e => (av (fW (jv (aa 0)) (kJ (bB (fun _ _ _ _ _ => trivial) (ay 3) (bB (fun _ _ _ _ _ => trivial) (ay 4) (bB (fun _ _ _ _ _ => trivial) (ay 5) (iZ fun _ => trivial))))) (fun e => (cL (iT (aM " ") (vn.d (dJ (af (fc lI (af (aa 3) au)) (af (fc lI (af (aa 4) au)) (af (aP (af (aa 5) au)) au))))))))) fun e => (dO (GC 2 (iT (aM "") (vn.d (qZ (vs := [6]) (jv (aa 2)) (fF 6 (by decide)) (fun e => lX) (fun e => (aj bu (aa 6) (aM "\n"))))))))))) h
noncomputable def gg (e : En) : Option Rs :=
    (aN (Qw 2 3 (ai (o2 cY (ao e 0) (o2 dD (o2 cY (ao e 1) (some (Dt.int 0))) ((ai (ao e 0) (some [])).bind qh))) (ai (o2 cY (ao e 0) (o2 dD (o2 cY (ao e 1) (some (Dt.int 1))) ((ai (ao e 0) (some [])).bind qh))) (some []))) e) fun e =>
    (aN (eU (((ai (o2 Du (o2 dD (o2 cY (ao e 1) (some (Dt.int 2))) (some (Dt.int 40))) (some (Dt.int 10))) (ai (o2 Du (o2 cY (ao e 1) (some (Dt.int 2))) (some (Dt.int 500))) (ai (o2 jN (o2 Du (o2 dD (o2 cY (ao e 1) (some (Dt.int 2))) (some (Dt.int 1009))) (some (Dt.int 500))) (o2 FG (some (Dt.int 10)) (some (Dt.int 7)))) (ai (some (Dt.int 0)) (some []))))).bind vm).map Dt.lst) (fName 4) e) fun e =>
    (aN (eU (o2 cY (ao e 4) (o2 dD (o2 cY (ao e 1) (some (Dt.int 3))) (some (Dt.int 4)))) (fName 5) e) fun e =>
    (aN (((ai ((ai (some (Dt.str "trestle")) (ai (ao e 2) (ai (o2 Du (o2 dD (o2 cY (ao e 1) (some (Dt.int 4))) (some (Dt.int 12))) (some (Dt.int 1))) (ai (ao e 5) (ai (o2 cA (ao e 5) (o2 dD (o2 cY (ao e 1) (some (Dt.int 5))) (some (Dt.int 9)))) (some [])))))).bind fu) (ai ((ai (some (Dt.str "away")) (ai (ao e 2) (some []))).bind fu) (ai ((ai (some (Dt.str "along")) (ai (ao e 2) (ai (ao e 5) (some [])))).bind fu) (some [])))).bind vm).map fun ds => Rs.nx (e.set 6 (Sl.ow ds))) fun e =>
    (aN (MW (frz e 6) fun e => ((UX G6 (ao e 6) (((ai ((ai (some (Dt.str "board")) (ai (ao e 2) (ai (o2 cA (some (Dt.int 1)) (o2 dD (o2 cY (ao e 1) (some (Dt.int 4))) (some (Dt.int 9)))) (ai (ao e 5) (ai (o2 cA (o2 cA (ao e 5) (some (Dt.int 1))) (o2 cY (ao e 1) (some (Dt.int 5)))) (ai (o2 cA (some (Dt.int 1)) (o2 cY (ao e 1) (some (Dt.int 6)))) (some []))))))).bind fu) (ai ((ai (some (Dt.str "cut")) (ai (ao e 2) (some []))).bind fu) (ai ((ai (some (Dt.str "lift")) (ai (ao e 2) (some []))).bind fu) (some [])))).bind vm).map Dt.lst)).map fun ds => Rs.nx (e.set 6 (Sl.ow ds)))) fun e =>
    (aN (MW (frz e 6) fun e => ((UX G6 (ao e 6) (((ai ((ai (some (Dt.str "sack")) (ai (ao e 2) (ai (ao e 3) (ai (ao e 5) (ai (o2 cA (some (Dt.int 1)) (o2 cY (ao e 1) (some (Dt.int 5)))) (some [])))))).bind fu) (ai ((ai (some (Dt.str "move")) (ai (ao e 2) (ai (ao e 3) (ai (ao e 5) (some []))))).bind fu) (some []))).bind vm).map Dt.lst)).map fun ds => Rs.nx (e.set 6 (Sl.ow ds)))) fun e =>
    (aN (jO e 6 ((ai (some (Dt.str "cord")) (ai (ao e 2) (ai (some (Dt.str "")) (ai (ao e 3) (ai (ao e 5) (some [])))))).bind fu)) fun e =>
    (aN (jO e 6 ((ai (some (Dt.str "cord")) (ai (ao e 2) (ai (ao e 3) (ai (o2 cY (ao e 0) (o2 dD (o2 cY (ao e 1) (some (Dt.int 6))) ((ai (ao e 0) (some [])).bind qh))) (ai (ao e 5) (some [])))))).bind fu)) fun e =>
    (aN (jO e 6 ((ai (some (Dt.str "sack")) (ai (ao e 2) (ai (ao e 3) (ai (ao e 5) (ai (o2 jN (o2 dD (o2 cY (ao e 1) (some (Dt.int 5))) (some (Dt.int 1009))) (o2 FG (some (Dt.int 10)) (some (Dt.int 6)))) (some [])))))).bind fu)) fun e =>
    (MW (frz e 6) fun e => ((o2 cY (ao e 6) (o2 dD (o2 cY (ao e 1) (some (Dt.int 7))) (some (Dt.int 11)))).map Rs.rt)))))))))))
noncomputable def eG (ds : List Dt) : Option Dt := (gg (o4 7 ds)).bind gj
theorem oJ (T : TL w K mg) : FnOk P w K mg base CX0 1 T.bU.a T.bU.d ["_law_names_here", "_law_d"] (vj K T.k 2 eG) := by
  refine T.bU.F.ok bF (fun vs H Q E h => d_len h) (fun cdv A outer s H vs Q E hr h => ?_)
  have hu := hu_of hr
  refine ⟨_, pss_cons (ps_par (i := 2) (j := 3) (by rfl) bF.nd rfl rfl (by decide) rfl rfl (pa_cons (pe_ix (r := bP K) (aF hu) (pv 0) (pe_op op_modN (pe_ix (r := bP K) (aF hu) (pv 1) pe_int (fun _ _ => rfl)) (pe_callB (r := mQ K) fK (by rfl) T.jd (by decide +kernel) (pa_cons (pv 0) pa_nil))) (fun _ _ => rfl)) (pa_cons (pe_ix (r := bP K) (aF hu) (pv 0) (pe_op op_modN (pe_ix (r := bP K) (aF hu) (pv 1) pe_int (fun _ _ => rfl)) (pe_callB (r := mQ K) fK (by rfl) T.jd (by decide +kernel) (pa_cons (pv 0) pa_nil))) (fun _ _ => rfl)) pa_nil)) (by rfl))
      (pss_cons (ps_set (i := 4) bF.nd rfl (Or.inl rfl) (pe_lst (pa_cons (pe_op op_sub (pe_op op_modN (pe_ix (r := bP K) (aF hu) (pv 1) pe_int (fun _ _ => rfl)) pe_int) pe_int) (pa_cons (pe_op op_sub (pe_ix (r := bP K) (aF hu) (pv 1) pe_int (fun _ _ => rfl)) pe_int) (pa_cons (pe_op (r := iP) eY (pe_op op_sub (pe_op op_modN (pe_ix (r := bP K) (aF hu) (pv 1) pe_int (fun _ _ => rfl)) pe_int) pe_int) (pe_op op_pow pe_int pe_int)) (pa_cons pe_int pa_nil))))))
      (pss_cons (ps_set (i := 5) bF.nd rfl (Or.inl rfl) (pe_ix (r := bP K) (aF hu) (pv 4) (pe_op op_modN (pe_ix (r := bP K) (aF hu) (pv 1) pe_int (fun _ _ => rfl)) pe_int) (fun _ _ => rfl)))
      (pss_cons (ps_set (i := 6) bF.nd rfl (Or.inl rfl) (pe_lst (pa_cons (pe_tup (pa_cons pe_str (pa_cons (pv 2) (pa_cons (pe_op op_sub (pe_op op_modN (pe_ix (r := bP K) (aF hu) (pv 1) pe_int (fun _ _ => rfl)) pe_int) pe_int) (pa_cons (pv 5) (pa_cons (pe_op (r := bO K) aK (pv 5) (pe_op op_modN (pe_ix (r := bP K) (aF hu) (pv 1) pe_int (fun _ _ => rfl)) pe_int)) pa_nil)))))) (pa_cons (pe_tup (pa_cons pe_str (pa_cons (pv 2) pa_nil))) (pa_cons (pe_tup (pa_cons pe_str (pa_cons (pv 2) (pa_cons (pv 5) pa_nil)))) pa_nil)))))
      (pss_cons (ps_set (i := 6) bF.nd rfl (Or.inl rfl) (pe_op (r := bO K) aK (pv 6) (pe_lst (pa_cons (pe_tup (pa_cons pe_str (pa_cons (pv 2) (pa_cons (pe_op (r := bO K) aK pe_int (pe_op op_modN (pe_ix (r := bP K) (aF hu) (pv 1) pe_int (fun _ _ => rfl)) pe_int)) (pa_cons (pv 5) (pa_cons (pe_op (r := bO K) aK (pe_op (r := bO K) aK (pv 5) pe_int) (pe_ix (r := bP K) (aF hu) (pv 1) pe_int (fun _ _ => rfl))) (pa_cons (pe_op (r := bO K) aK pe_int (pe_ix (r := bP K) (aF hu) (pv 1) pe_int (fun _ _ => rfl))) pa_nil))))))) (pa_cons (pe_tup (pa_cons pe_str (pa_cons (pv 2) pa_nil))) (pa_cons (pe_tup (pa_cons pe_str (pa_cons (pv 2) pa_nil))) pa_nil))))))
      (pss_cons (ps_set (i := 6) bF.nd rfl (Or.inl rfl) (pe_op (r := bO K) aK (pv 6) (pe_lst (pa_cons (pe_tup (pa_cons pe_str (pa_cons (pv 2) (pa_cons (pv 3) (pa_cons (pv 5) (pa_cons (pe_op (r := bO K) aK pe_int (pe_ix (r := bP K) (aF hu) (pv 1) pe_int (fun _ _ => rfl))) pa_nil)))))) (pa_cons (pe_tup (pa_cons pe_str (pa_cons (pv 2) (pa_cons (pv 3) (pa_cons (pv 5) pa_nil))))) pa_nil)))))
      (pss_cons (ps_expr (pe_bm PySem.F.plainAttrs_list PySem.F.slot_list_append PySem.F.type_list_append mt_append (pv 6) (pa_cons (pe_tup (pa_cons pe_str (pa_cons (pv 2) (pa_cons pe_str (pa_cons (pv 3) (pa_cons (pv 5) pa_nil)))))) pa_nil)))
      (pss_cons (ps_expr (pe_bm PySem.F.plainAttrs_list PySem.F.slot_list_append PySem.F.type_list_append mt_append (pv 6) (pa_cons (pe_tup (pa_cons pe_str (pa_cons (pv 2) (pa_cons (pv 3) (pa_cons (pe_ix (r := bP K) (aF hu) (pv 0) (pe_op op_modN (pe_ix (r := bP K) (aF hu) (pv 1) pe_int (fun _ _ => rfl)) (pe_callB (r := mQ K) fK (by rfl) T.jd (by decide +kernel) (pa_cons (pv 0) pa_nil))) (fun _ _ => rfl)) (pa_cons (pv 5) pa_nil)))))) pa_nil)))
      (pss_cons (ps_expr (pe_bm PySem.F.plainAttrs_list PySem.F.slot_list_append PySem.F.type_list_append mt_append (pv 6) (pa_cons (pe_tup (pa_cons pe_str (pa_cons (pv 2) (pa_cons (pv 3) (pa_cons (pv 5) (pa_cons (pe_op (r := iP) eY (pe_op op_modN (pe_ix (r := bP K) (aF hu) (pv 1) pe_int (fun _ _ => rfl)) pe_int) (pe_op op_pow pe_int pe_int)) pa_nil)))))) pa_nil)))
      (pss_one (ps_ret (pe_ix (r := bP K) (aF hu) (pv 6) (pe_op op_modN (pe_ix (r := bP K) (aF hu) (pv 1) pe_int (fun _ _ => rfl)) pe_int) (fun _ _ => rfl)))))))))))), ?_⟩
  exact gU (N := jH) (b := gg) (fun lk e => (av (NU (af (aj bf (aa 0) (aj br (aj bf (aa 1) (ah 0)) (fc lF (af (aa 0) au)))) (af (aj bf (aa 0) (aj br (aj bf (aa 1) (ah 1)) (fc lF (af (aa 0) au)))) au))) fun e => (av (bR (vn.d (dJ (af (aj nS (aj br (aj bf (aa 1) (ah 2)) (ah 40)) (ah 10)) (af (aj nS (aj bf (aa 1) (ah 2)) (ah 500)) (af (aj gR (aj nS (aj br (aj bf (aa 1) (ah 2)) (ah 1009)) (ah 500)) (aj EI (ah 10) (ah 7))) (af (ah 0) au)))))) (ay 4)) fun e => (av (bR (aj bf (aa 4) (aj br (aj bf (aa 1) (ah 3)) (ah 4))) (ay 5)) fun e => (av (ir (dJ (af (cN (af (aM "trestle") (af (aa 2) (af (aj nS (aj br (aj bf (aa 1) (ah 4)) (ah 12)) (ah 1)) (af (aa 5) (af (aj bu (aa 5) (aj br (aj bf (aa 1) (ah 5)) (ah 9))) au)))))) (af (cN (af (aM "away") (af (aa 2) au))) (af (cN (af (aM "along") (af (aa 2) (af (aa 5) au)))) au))))) fun e => (av (jw 6 (ir (IG Jw (aa 6) (vn.d (dJ (af (cN (af (aM "board") (af (aa 2) (af (aj bu (ah 1) (aj br (aj bf (aa 1) (ah 4)) (ah 9))) (af (aa 5) (af (aj bu (aj bu (aa 5) (ah 1)) (aj bf (aa 1) (ah 5))) (af (aj bu (ah 1) (aj bf (aa 1) (ah 6))) au))))))) (af (cN (af (aM "cut") (af (aa 2) au))) (af (cN (af (aM "lift") (af (aa 2) au))) au)))))))) fun e => (av (jw 6 (ir (IG Jw (aa 6) (vn.d (dJ (af (cN (af (aM "sack") (af (aa 2) (af (aa 3) (af (aa 5) (af (aj bu (ah 1) (aj bf (aa 1) (ah 5))) au)))))) (af (cN (af (aM "move") (af (aa 2) (af (aa 3) (af (aa 5) au))))) au))))))) fun e => (av (cL (cN (af (aM "cord") (af (aa 2) (af (aM "") (af (aa 3) (af (aa 5) au))))))) fun e => (av (cL (cN (af (aM "cord") (af (aa 2) (af (aa 3) (af (aj bf (aa 0) (aj br (aj bf (aa 1) (ah 6)) (fc lF (af (aa 0) au)))) (af (aa 5) au))))))) fun e => (av (cL (cN (af (aM "sack") (af (aa 2) (af (aa 3) (af (aa 5) (af (aj gR (aj br (aj bf (aa 1) (ah 5)) (ah 1009)) (aj EI (ah 10) (ah 6))) au))))))) fun e => (jw 6 (dO (aj bf (aa 6) (aj br (aj bf (aa 1) (ah 7)) (ah 11))))))))))))))) h
noncomputable def eN (e : En) : Option Rs :=
    (aN (eU (HM (ao e 0) ((o2 jN (some (Dt.int 11)) (ao e 5)).bind iD) ((o2 cA (o2 jN (some (Dt.int 11)) (ao e 5)) (some (Dt.int 11))).bind iD)) (fName 6) e) fun e =>
    (aN (eU (o2 cA (o2 cA (ao e 4) (some (Dt.int 1))) (o2 dD (o2 cY (ao e 6) (some (Dt.int 8))) (o2 cY (((ai (some (Dt.int 1)) (ai (some (Dt.int 4)) (some []))).bind vm).map Dt.lst) (o2 dD (o2 cY (ao e 6) (some (Dt.int 9))) (some (Dt.int 2)))))) (fName 4) e) fun e =>
    (jO e 3 ((ai (ao e 4) (ai (o2 cA (some (Dt.int 1)) (o2 dD (o2 cY (ao e 6) (some (Dt.int 9))) (o2 cY (((ai (some (Dt.int 12)) (ai (some (Dt.int 9999)) (some []))).bind vm).map Dt.lst) (o2 dD (o2 cY (ao e 6) (some (Dt.int 10))) (some (Dt.int 2)))))) (ai ((ai (ao e 1) (ai (ao e 6) (some []))).bind (ar 2 eG)) (some [])))).bind fu))))
noncomputable def fE (e : En) : Option Rs :=
    (aN (((some []).bind vm).map fun ds => Rs.nx (e.set 3 (Sl.ow ds))) fun e =>
    (aN (eU (some (Dt.int 0)) (fName 4) e) fun e =>
    (aN (((ai (ao e 2) (some [])).bind lE).bind fun xs => bz (fName 5) eN xs e) fun e =>
    (MW (frz e 3) fun e => (((ai (ao e 3) (ai (o2 cA (o2 cA (ao e 4) (some (Dt.int 1))) (o2 dD (o2 cY (ao e 0) (some (Dt.int 0))) (some (Dt.int 3)))) (some []))).bind fu).map Rs.rt)))))
noncomputable def cU (ds : List Dt) : Option Dt := (fE (o4 7 ds)).bind gj
theorem mD (T : TL w K mg) : FnOk P w K mg base CX0 2 T.bE.a T.bE.d ["_law_feed_here", "_law_names_here", "_law_many"] (vj K T.k 3 cU) := by
  have qv := oJ (P := P) (w := w) (base := base) T
  refine T.bE.F.ok bQ (fun vs H Q E h => d_len h) (fun cdv A outer s H vs Q E hr h => ?_)
  have hu := hu_of hr
  refine ⟨_, pss_cons (ps_set (i := 3) bQ.nd rfl (Or.inl rfl) (pe_lst pa_nil))
      (pss_cons (ps_set (i := 4) bQ.nd rfl (Or.inl rfl) pe_int)
      (pss_cons (ps_for PassesOwn.never rfl (pi_range1 rfl T.jC (pa_cons (pv 2) pa_nil)) (pg_name (i := 5) bQ.nd rfl (Or.inl rfl)) (pss_cons (ps_set (i := 6) bQ.nd rfl (Or.inl rfl) (pe_slice (r := gQ K) jf (pv 0) (po_some (pe_op (r := iP) eY pe_int (pv 5))) (po_some (pe_op (r := bO K) aK (pe_op (r := iP) eY pe_int (pv 5)) pe_int))))
      (pss_cons (ps_set (i := 4) bQ.nd rfl (Or.inl rfl) (pe_op (r := bO K) aK (pe_op (r := bO K) aK (pv 4) pe_int) (pe_op op_modN (pe_ix (r := bP K) (aF hu) (pv 6) pe_int (fun _ _ => rfl)) (pe_ix (r := bP K) (aF hu) (pe_lst (pa_cons pe_int (pa_cons pe_int pa_nil))) (pe_op op_modN (pe_ix (r := bP K) (aF hu) (pv 6) pe_int (fun _ _ => rfl)) pe_int) (fun _ _ => rfl)))))
      (pss_one (ps_expr (pe_bm PySem.F.plainAttrs_list PySem.F.slot_list_append PySem.F.type_list_append mt_append (pv 3) (pa_cons (pe_tup (pa_cons (pv 4) (pa_cons (pe_op (r := bO K) aK pe_int (pe_op op_modN (pe_ix (r := bP K) (aF hu) (pv 6) pe_int (fun _ _ => rfl)) (pe_ix (r := bP K) (aF hu) (pe_lst (pa_cons pe_int (pa_cons pe_int pa_nil))) (pe_op op_modN (pe_ix (r := bP K) (aF hu) (pv 6) pe_int (fun _ _ => rfl)) pe_int) (fun _ _ => rfl)))) (pa_cons (pe_call qv (hr.mono (by decide)) (by rfl) T.bU.g T.bU.F.kp T.bU.b .nil pass0 (pa_cons (pv 1) (pa_cons (pv 6) pa_nil))) pa_nil)))) pa_nil)))))))
      (pss_one (ps_ret (pe_tup (pa_cons (pv 3) (pa_cons (pe_op (r := bO K) aK (pe_op (r := bO K) aK (pv 4) pe_int) (pe_op op_modN (pe_ix (r := bP K) (aF hu) (pv 0) pe_int (fun _ _ => rfl)) pe_int)) pa_nil))))))), ?_⟩
  exact gU (N := iR) (b := fE) (fun lk e => (av (ir (dJ au)) fun e => (av (bR (ah 0) (ay 4)) fun e => (av (fW (jc (af (aa 2) au)) (ay 5) (fun e => (av (bR (jA (aa 0) (dU (aj gR (ah 11) (aa 5))) (dU (aj bu (aj gR (ah 11) (aa 5)) (ah 11)))) (ay 6)) fun e => (av (bR (aj bu (aj bu (aa 4) (ah 1)) (aj br (aj bf (aa 6) (ah 8)) (aj bf (vn.d (dJ (af (ah 1) (af (ah 4) au)))) (aj br (aj bf (aa 6) (ah 9)) (ah 2))))) (ay 4)) fun e => (cL (cN (af (aa 4) (af (aj bu (ah 1) (aj br (aj bf (aa 6) (ah 9)) (aj bf (vn.d (dJ (af (ah 12) (af (ah 9999) au)))) (aj br (aj bf (aa 6) (ah 10)) (ah 2))))) (af (aP (af (aa 1) (af (aa 6) au))) au))))))))) fun e => (jw 3 (dO (cN (af (aa 3) (af (aj bu (aj bu (aa 4) (ah 1)) (aj br (aj bf (aa 0) (ah 0)) (ah 3))) au))))))))) h
noncomputable def mZ (e : En) : Option Rs :=
    (aN (gE e 3 (ai (ao e 7) (ai (ao e 8) (some []))) (fun e => (ao e 5)) aO (fun e => ((some (Dt.bl false)).map Rs.rt))) fun e =>
    (aN (jO e 4 ((ai (ao e 5) (ai (ao e 7) (ai (ao e 8) (some [])))).bind fu)) fun e =>
    (aN (eU (o2 cA (ao e 5) (some (Dt.int 1))) (fName 5) e) fun e =>
    (aN (CA ((o2 (lK false) (o2 dD (ao e 6) (some (Dt.int 5))) (some (Dt.int 4))).bind bD) (eT e 3 4) (some (Rs.nx e))) fun e =>
    (aN (CA (j7 ((o2 (lK false) (o2 dD (ao e 6) (some (Dt.int 7))) (some (Dt.int 3))).bind bD) (ND (frz e 4) fun e => ((o2 (lK true) (ao e 4) (((some []).bind vm).map Dt.lst)).bind bD))) (aN (eU ((xw e 4).bind fun ds => ((some (Dt.int 0))).bind fun x => cY (.lst ds) x) (jM 3 (bw (fName 6) (bw (fName 7) (bw (fName 8) kM)))) e) fun e =>
    (aN (Fz e 4 (some (Dt.int 0)) ((ai (ao e 6) (ai (some (Dt.int 9999)) (ai (ao e 8) (some [])))).bind fu)) fun e =>
    (fG e 3 (ai (ao e 6) (ai (some (Dt.int 9999)) (ai (ao e 8) (some []))))))) (some (Rs.nx e))) fun e =>
    (CA (MZ e fun e => (j7 ((o2 (lK false) (o2 dD (o2 cY (ao e 1) (some (Dt.int 1))) (some (Dt.int 3))) (some (Dt.int 0))).bind bD) (ND (frz e 4) fun e => ((ND (frz e 4) fun e => (((ai ((ai (ao e 3) (some [])).bind (ar 1 dZ)) (ai ((ai (ao e 4) (ai (ao e 5) (some []))).bind (ar 2 cF)) (some []))).bind (ar 2 aO)).bind bD)).map (!·))))) ((some (Dt.bl false)).map Rs.rt) (some (Rs.nx e))))))))
noncomputable def qE (e : En) : Option Rs :=
    (CA (MZ e fun e => (ND (frz e 4) fun e => ((ND (frz e 4) fun e => (((ai ((ai (ao e 3) (some [])).bind (ar 1 dZ)) (ai ((ai (ao e 4) (ai (ao e 5) (some []))).bind (ar 2 cF)) (some []))).bind (ar 2 aO)).bind bD)).map (!·)))) ((some (Dt.bl false)).map Rs.rt) (some (Rs.nx e)))
noncomputable def JR (e : En) : Option Rs :=
    (aN (eU ((ai (ao e 0) (ai (some (Dt.int 470)) (some []))).bind (ar 2 eS)) (fName 1) e) fun e =>
    (aN (eU ((ai (HM (ao e 1) ((some (Dt.int 2)).bind iD) ((some (Dt.int 6)).bind iD)) (ai (some (Dt.int 8)) (some []))).bind (ar 2 eg)) (fName 2) e) fun e =>
    (aN ((some (Dt.dia d0)).map fun d => Rs.nx (e.set 3 (Sl.od d))) fun e =>
    (aN (((some []).bind vm).map fun ds => Rs.nx (e.set 4 (Sl.ow ds))) fun e =>
    (aN (eU (some (Dt.int 1)) (fName 5) e) fun e =>
    (aN (((o2 cY ((ai (HM (ao e 1) ((some (Dt.int 10)).bind iD) (some none)) (ai (ao e 2) (ai (o2 dD (o2 cY (ao e 1) (some (Dt.int 0))) (some (Dt.int 41))) (some [])))).bind (ar 3 cU)) (some (Dt.int 0))).bind sD).bind fun xs => bz (jM 3 (bw (fName 6) (bw (fName 7) (bw (fName 8) kM)))) mZ xs e) fun e =>
    (aN (((ai (some (Dt.int 2)) (some [])).bind lE).bind fun xs => bz (fName 9) qE xs e) fun e =>
    (aN (kG e 3 (ai (some (Dt.int 5)) (ai ((ai (some (Dt.str "cut")) (ai (o2 cY (ao e 2) (some (Dt.int 0))) (some []))).bind fu) (some [])))) fun e =>
    (aN (nC e 3) fun e =>
    (MW (frz e 4) fun e => ((Ux e fun e => (pV ((ai ((ai (ao e 3) (some [])).bind (ar 1 dZ)) (ai ((ai (ao e 4) (ai (ao e 5) (some []))).bind (ar 2 cF)) (some []))).bind (ar 2 aO)) ((ai (((ao e 3).bind JM).map Dt.lst) (ai (ao e 4) (some []))).bind (ar 2 aO)))).map Rs.rt)))))))))))
noncomputable def IZ (ds : List Dt) : Option Dt := (JR (o4 10 ds)).bind gj
theorem PY (T : TL w K mg) : FnOk P w K mg base CX0 8 T.pI.a T.pI.d ["_law_script"] (UR K T.k 1 IZ) := by
  have CG := Bp (P := P) (w := w) (base := base) T
  have oS := mD (P := P) (w := w) (base := base) T
  have xX := vB (P := P) (w := w) (base := base) T
  have jQ := Aj (P := P) (w := w) (base := base) T
  have f5 := Bt (P := P) (w := w) (base := base) T
  have oW := Ef (P := P) (w := w) (base := base) T
  have M5 := vJ (P := P) (w := w) (base := base) T.toTB
  have E4 := nZ (P := P) (w := w) (base := base) T.toTB
  have DR := ve (P := P) (w := w) (base := base) T.toTB
  have NR := vo (P := P) (w := w) (base := base) T.toTB
  have xO := kW (P := P) (w := w) (base := base) T.toTB
  have G9 := qp (P := P) (w := w) (base := base) T.toTB
  refine T.pI.F.ok fh (fun vs H Q E h => SM h) (fun cdv A outer s H vs Q E hr h => ?_)
  have hu := hu_of hr
  refine ⟨_, pss_cons (ps_set (i := 1) fh.nd rfl (Or.inl rfl) (pe_call CG (hr.mono (by decide)) (by rfl) T.dY.g T.dY.F.kp T.dY.b .nil pass0 (pa_cons (pv 0) (pa_cons pe_int pa_nil))))
      (pss_cons (ps_set (i := 2) fh.nd rfl (Or.inl rfl) (pe_call xX (hr.mono (by decide)) (by rfl) T.dh.g T.dh.F.kp T.dh.b .nil pass0 (pa_cons (pe_slice (r := gQ K) jf (pv 1) (po_some pe_int) (po_some pe_int)) (pa_cons pe_int pa_nil))))
      (pss_cons (ps_set (i := 3) fh.nd rfl (Or.inl rfl) (pe_make0 T.CT NR (hr.mono (by decide)) (by rfl) T.GP T.C8 .nil pass0))
      (pss_cons (ps_set (i := 4) fh.nd rfl (Or.inl rfl) (pe_lst pa_nil))
      (pss_cons (ps_set (i := 5) fh.nd rfl (Or.inl rfl) pe_int)
      (pss_cons (ps_for PassesOwn.never rfl (lM (pe_ix (r := bP K) (aF hu) (pe_call oS (hr.mono (by decide)) (by rfl) T.bE.g T.bE.F.kp T.bE.b .nil pass0 (pa_cons (pe_slice (r := gQ K) jf (pv 1) (po_some pe_int) po_none) (pa_cons (pv 2) (pa_cons (pe_op op_modN (pe_ix (r := bP K) (aF hu) (pv 1) pe_int (fun _ _ => rfl)) pe_int) pa_nil)))) pe_int (fun _ _ => rfl))) (pg_tup rfl (pgs_cons (pg_name (i := 6) fh.nd rfl (Or.inl rfl)) (pgs_cons (pg_name (i := 7) fh.nd rfl (Or.inl rfl)) (pgs_cons (pg_name (i := 8) fh.nd rfl (Or.inl rfl)) pgs_nil)))) (pss_cons (ps_if (pt_not (pt_val (pe_call f5 (hr.mono (by decide)) (by rfl) T.aE.g T.aE.F.kp T.aE.b .nil pass0 (pa_cons (pe_meth (pv 3) T.az T.bX.m DR (hr.mono (by decide)) T.bX.b .nil pass0 (pa_cons (pv 7) (pa_cons (pv 8) pa_nil))) (pa_cons (pv 5) pa_nil))))) (pss_one (ps_ret pe_bl)) pss_nil)
      (pss_cons (ps_expr (pe_bm PySem.F.plainAttrs_list PySem.F.slot_list_append PySem.F.type_list_append mt_append (pv 4) (pa_cons (pe_tup (pa_cons (pv 5) (pa_cons (pv 7) (pa_cons (pv 8) pa_nil)))) pa_nil)))
      (pss_cons (ps_set (i := 5) fh.nd rfl (Or.inl rfl) (pe_op (r := bO K) aK (pv 5) pe_int))
      (pss_cons (ps_if (pt_cmpR (r := rEqD K) (op_eqD hr.units) (pe_op op_modN (pv 6) pe_int) pe_int (nomark _)) (pss_one (ps_expr (pe_meth (pv 3) T.az T.cQ.m G9 (hr.mono (by decide)) T.cQ.b .nil pass0 (pa_cons (pe_ix (r := bP K) (aF hu) (pe_bm0 PySem.F.plainAttrs_list PySem.F.slot_list_pop PySem.F.type_list_pop mt_pop (pv 4)) pe_int (fun _ _ => rfl)) pa_nil)))) pss_nil)
      (pss_cons (ps_if (PW.pt (pw_and (pt_cmpR (r := rEqD K) (op_eqD hr.units) (pe_op op_modN (pv 6) pe_int) pe_int (nomark _)) (pw_and1 (pt_cmpR (r := rNeD K) (op_neD hr.units) (pv 4) (pe_lst pa_nil) (nomark _))))) (pss_cons (ps_asg (pe_ix (r := bP K) (aF hu) (pv 4) pe_int (fun _ _ => rfl)) (pg_tup rfl (pgs_cons (pg_name (i := 6) fh.nd rfl (Or.inl rfl)) (pgs_cons (pg_name (i := 7) fh.nd rfl (Or.inl rfl)) (pgs_cons (pg_name (i := 8) fh.nd rfl (Or.inl rfl)) pgs_nil)))))
      (pss_cons (ps_asg (pe_tup (pa_cons (pv 6) (pa_cons pe_int (pa_cons (pv 8) pa_nil)))) (pg_sub (pv 4) pe_int set_list))
      (pss_one (ps_expr (pe_meth (pv 3) T.az T.cz.m E4 (hr.mono (by decide)) T.cz.b .nil pass0 (pa_cons (pv 6) (pa_cons pe_int (pa_cons (pv 8) pa_nil)))))))) pss_nil)
      (pss_one (ps_if (PW.pt (pw_and (pt_cmpR (r := rEqD K) (op_eqD hr.units) (pe_op op_modN (pe_ix (r := bP K) (aF hu) (pv 1) pe_int (fun _ _ => rfl)) pe_int) pe_int (nomark _)) (pw_and1 (pt_not (pt_val (pe_call f5 (hr.mono (by decide)) (by rfl) T.aE.g T.aE.F.kp T.aE.b .nil pass0 (pa_cons (pe_call oW (hr.mono (by decide)) (by rfl) T.cg.g T.cg.F.kp T.cg.b .nil pass0 (pa_cons (pv 3) pa_nil)) (pa_cons (pe_call jQ (hr.mono (by decide)) (by rfl) T.bh.g T.bh.F.kp T.bh.b .nil pass0 (pa_cons (pv 4) (pa_cons (pv 5) pa_nil))) pa_nil)))))))) (pss_one (ps_ret pe_bl)) pss_nil))))))))
      (pss_cons (ps_for PassesOwn.never rfl (pi_range1 rfl T.jC (pa_cons pe_int pa_nil)) (pg_name (i := 9) fh.nd rfl (Or.inl rfl)) (pss_one (ps_if (pt_not (pt_val (pe_call f5 (hr.mono (by decide)) (by rfl) T.aE.g T.aE.F.kp T.aE.b .nil pass0 (pa_cons (pe_call oW (hr.mono (by decide)) (by rfl) T.cg.g T.cg.F.kp T.cg.b .nil pass0 (pa_cons (pv 3) pa_nil)) (pa_cons (pe_call jQ (hr.mono (by decide)) (by rfl) T.bh.g T.bh.F.kp T.bh.b .nil pass0 (pa_cons (pv 4) (pa_cons (pv 5) pa_nil))) pa_nil))))) (pss_one (ps_ret pe_bl)) pss_nil)))
      (pss_cons (ps_expr (pe_meth (pv 3) T.az T.bX.m DR (hr.mono (by decide)) T.bX.b .nil pass0 (pa_cons pe_int (pa_cons (pe_tup (pa_cons pe_str (pa_cons (pe_ix (r := bP K) (aF hu) (pv 2) pe_int (fun _ _ => rfl)) pa_nil))) pa_nil))))
      (pss_cons (ps_expr (pe_meth0 (pv 3) T.az T.d7.m M5 (hr.mono (by decide)) T.d7.b .nil pass0))
      (pss_one (ps_ret (pe_and (pe_call f5 (hr.mono (by decide)) (by rfl) T.aE.g T.aE.F.kp T.aE.b .nil pass0 (pa_cons (pe_call oW (hr.mono (by decide)) (by rfl) T.cg.g T.cg.F.kp T.cg.b .nil pass0 (pa_cons (pv 3) pa_nil)) (pa_cons (pe_call jQ (hr.mono (by decide)) (by rfl) T.bh.g T.bh.F.kp T.bh.b .nil pass0 (pa_cons (pv 4) (pa_cons (pv 5) pa_nil))) pa_nil))) (pe_one (pe_call f5 (hr.mono (by decide)) (by rfl) T.aE.g T.aE.F.kp T.aE.b .nil pass0 (pa_cons (pe_meth0 (pv 3) T.az T.cE.m xO (hr.mono (by decide)) T.cE.b .nil pass0) (pa_cons (pv 4) pa_nil))))))))))))))), ?_⟩
  exact QS (N := Of) (b := JR) (fun e => (av (bR (aP (af (aa 0) (af (ah 470) au))) (ay 1)) fun e => (av (bR (aP (af (jA (aa 1) (dU (ah 2)) (dU (ah 6))) (af (ah 8) au))) (ay 2)) fun e => (av (Sd Nh) fun e => (av (ir (dJ au)) fun e => (av (bR (ah 1) (ay 5)) fun e => (av (fW (jv (aj bf (aP (af (jA (aa 1) (dU (ah 10)) gX) (af (aa 2) (af (aj br (aj bf (aa 1) (ah 0)) (ah 41)) au)))) (ah 0))) (kJ (bB (fun _ _ _ _ _ => trivial) (ay 6) (bB (fun _ _ _ _ _ => trivial) (ay 7) (bB (fun _ _ _ _ _ => trivial) (ay 8) (iZ fun _ => trivial))))) (fun e => (av (z4 (af (aa 7) (af (aa 8) au)) (fun e => (aa 5)) (fun e => (dO (Fq false)))) fun e => (av (cL (cN (af (aa 5) (af (aa 7) (af (aa 8) au))))) fun e => (av (bR (aj bu (aa 5) (ah 1)) (ay 5)) fun e => (av (gH (bg (aj l9 (aj br (aa 6) (ah 5)) (ah 4))) vf dW) fun e => (av (gH (kK (bg (aj l9 (aj br (aa 6) (ah 7)) (ah 3))) (mV 4 (bg (aj MP (aa 4) (vn.d (dJ au)))))) (av (bR (Iq (ah 0)) (kJ (bB (fun _ _ _ _ _ => trivial) (ay 6) (bB (fun _ _ _ _ _ => trivial) (ay 7) (bB (fun _ _ _ _ _ => trivial) (ay 8) (iZ fun _ => trivial)))))) fun e => (av (MT (cN (af (aa 6) (af (ah 9999) (af (aa 8) au)))) (ah 0)) fun e => (z9 (af (aa 6) (af (ah 9999) (af (aa 8) au)))))) dW) fun e => (gH (GI fun e => (kK (bg (aj l9 (aj br (aj bf (aa 1) (ah 1)) (ah 3)) (ah 0))) (mV 4 (kF (mV 4 (Cm (aP (af (aP (af (aa 3) au)) (af (aP (af (aa 4) (af (aa 5) au))) au))))))))) (dO (Fq false)) dW)))))))) fun e => (av (fW (jc (af (ah 2) au)) (ay 9) (fun e => (gH (GI fun e => (mV 4 (kF (mV 4 (Cm (aP (af (aP (af (aa 3) au)) (af (aP (af (aa 4) (af (aa 5) au))) au)))))))) (dO (Fq false)) dW))) fun e => (av (Fj (af (ah 5) (af (cN (af (aM "cut") (af (aj bf (aa 2) (ah 0)) au))) au))) fun e => (av HK fun e => (jw 4 (dO (Nf fun e => (GF (aP (af (aP (af (aa 3) au)) (af (aP (af (aa 4) (af (aa 5) au))) au))) (aP (af (vn.d (De (aa 3))) (af (aa 4) au))))))))))))))))) h
end
end DY
section
set_option maxHeartbeats 0
namespace DY
open PySem PySem.Spec PyProof.Rows L2 DL
def GW (K : PySem.W.Frag) : Sp := fun vs H Q _ => ∃ (a : Addr) (ns : List Int), vs = [.ref a] ∧ SqL K H a (ns.map V.int) ∧ ∀ H', Q (.bl true) H'
def OW : Prop := ∀ {P : Program} {w : World} {K : PySem.W.Frag} {mg : Str → Option Value} {base : Heap} (T : TL w K mg), FnOk P w K mg base CX0 8 T.pI.a T.pI.d ["_law_script"] (GW K)
end DY
namespace DY
open PySem PySem.Spec PyProof.Rows L2
section
variable {w : World} {K : PySem.W.Frag} {mg : Str → Option Value} {h : Heap} {fa : List He.Fa} {fn : List He.DefD}
theorem nB {x q : Str} {st : Stmt} {f : Addr} {fd : FuncData} (F : FunD K x q (defArgs st) (defBody st) (defScope st) [] [] f fd) : Fun K x q st f fd := by
  obtain ⟨oc, od, dV, kV, doc, pm, an, cdv, ct, osl, rfl, lk, hcd, hD, _⟩ := F.ex
  rcases hD with ⟨_, rfl⟩ | ⟨e, _⟩
  · exact ⟨⟨oc, od, kV, doc, pm, an, cdv, ct, osl, rfl, lk, hcd⟩, F.kp⟩
  · exact absurd rfl e
theorem aI (X : K.In h) (G : h.Ns mainGlobals mg) (c : He.SaysD fa fn K) (i j : Nat) (x : Str) (st : Stmt) (ps : List Str) (hi : fn[i]? = some (HD.gd x st)) (hj : fa[j]? = some (.glo x))
    (hb : ∀ (kV doc pm : Value) (an : Option Addr) (cdv ct : Value) (us : List Value), us.length = ps.length → bindArgs (PySem.W.fnOf x x (defArgs st) (defBody st) (defScope st) .none kV doc pm an cdv ct) ⟨us, []⟩ = pure (ps.zip us)) : ∃ D : bZ K mg x st ps, D.a = He.ga K x := by
  obtain ⟨fd, F⟩ := c.def_ i hi
  have F' : FunD K x x (defArgs st) (defBody st) (defScope st) [] [] (He.ga K x) fd := F
  exact ⟨⟨_, fd, nB F', He.glo_ok X G (c.fact j hj), F'.bindsN hb⟩, rfl⟩
theorem eB (X : K.In h) (G : h.Ns mainGlobals mg) (c : He.SaysD fa fn K) (j k : Nat) (x : Str) (hj : fa[j]? = some (.glo x)) (hk : fa[k]? = some (.exc x)) : ∃ E : mH K mg x, E.a = He.ga K x := by
  obtain ⟨e1, e2, e3, e4⟩ := He.exc_ok (c.fact k hk)
  exact ⟨⟨_, He.glo_ok X G (c.fact j hj), e1, e2, e3, e4⟩, rfl⟩
theorem sQ (c : He.SaysD fa fn K) (i j : Nat) (m q : Str) (st : Stmt) (ps : List Str) (hi : fn[i]? = some (HD.md "Yard" m q st)) (hj : fa[j]? = some (.meth "Yard" m))
    (hb : ∀ (kV doc pm : Value) (an : Option Addr) (cdv ct : Value) (us : List Value), us.length = ps.length → bindArgs (PySem.W.fnOf m q (defArgs st) (defBody st) (defScope st) .none kV doc pm an cdv ct) ⟨us, []⟩ = pure (ps.zip us)) : Nonempty (jL K (He.ga K "Yard") m q st ps) := by
  obtain ⟨fd, F⟩ := c.def_ i hi
  have F' : FunD K m q (defArgs st) (defBody st) (defScope st) [] [] (He.ma K (He.ga K "Yard") m) fd := F
  exact ⟨⟨_, fd, nB F', He.meth_ok (c.fact j hj), F'.bindsN hb⟩⟩
theorem e7 (c : He.SaysD fa fn K) (i j : Nat) (C m q : Str) (st : Stmt) (ps : List Str) (hi : fn[i]? = some (HD.md C m q st)) (hj : fa[j]? = some (.meth C m))
    (hb : ∀ (kV doc pm : Value) (an : Option Addr) (cdv ct : Value) (us : List Value), us.length = ps.length → bindArgs (PySem.W.fnOf m q (defArgs st) (defBody st) (defScope st) .none kV doc pm an cdv ct) ⟨us, []⟩ = pure (ps.zip us)) : Nonempty (jL K (He.ga K C) m q st ps) := by
  obtain ⟨fd, F⟩ := c.def_ i hi
  have F' : FunD K m q (defArgs st) (defBody st) (defScope st) [] [] (He.ma K (He.ga K C) m) fd := F
  exact ⟨⟨_, fd, nB F', He.meth_ok (c.fact j hj), F'.bindsN hb⟩⟩
end
theorem facts (LF : OW) {P : Program} {w : World} {K : PySem.W.Frag} {h : Heap} {mg : Str → Option Value} {f : Addr} (X : K.In h) (G : h.Ns mainGlobals mg) (hfa : mg ("law" : Str) = some (.ref f)) (c : He.SaysX HD.fa HD.fn HD.ts [] HD.ex w h K) :
    ∃ fd : FuncData, (∀ (s : Shared) (v : Value), BindsTo s fd ⟨[v], []⟩ [("_law_script", v)]) ∧ ∀ base : Heap, K.In base → base.Ns mainGlobals mg → FnOk P w K mg base CX0 8 f fd ["_law_script"] (GW K) := by
  have cd : He.SaysD HD.fa HD.fn K := c.t.d
  obtain ⟨D_is_number, a_is_number⟩ := aI X G cd 2 3 "is_number" g8 ["value"] rfl rfl (fun _ _ _ _ _ _ us hl => match us, hl with | [_], _ => rfl)
  obtain ⟨D_is_place, a_is_place⟩ := aI X G cd 3 4 "is_place" rD ["value"] rfl rfl (fun _ _ _ _ _ _ us hl => match us, hl with | [_], _ => rfl)
  obtain ⟨D_is_course, a_is_course⟩ := aI X G cd 4 5 "is_course" pG ["value"] rfl rfl (fun _ _ _ _ _ _ us hl => match us, hl with | [_], _ => rfl)
  obtain ⟨D_is_weight, a_is_weight⟩ := aI X G cd 5 6 "is_weight" pP ["value"] rfl rfl (fun _ _ _ _ _ _ us hl => match us, hl with | [_], _ => rfl)
  obtain ⟨D_is_name, a_is_name⟩ := aI X G cd 1 2 "is_name" iN ["text"] rfl rfl (fun _ _ _ _ _ _ us hl => match us, hl with | [_], _ => rfl)
  obtain ⟨D_check_course, a_check_course⟩ := aI X G cd 7 8 "check_course" jZ ["course"] rfl rfl (fun _ _ _ _ _ _ us hl => match us, hl with | [_], _ => rfl)
  obtain ⟨D_check_places, a_check_places⟩ := aI X G cd 8 9 "check_places" jW ["left", "right"] rfl rfl (fun _ _ _ _ _ _ us hl => match us, hl with | [_, _], _ => rfl)
  obtain ⟨D_check_weight, a_check_weight⟩ := aI X G cd 9 10 "check_weight" jV ["weight"] rfl rfl (fun _ _ _ _ _ _ us hl => match us, hl with | [_], _ => rfl)
  obtain ⟨D_check_count, a_check_count⟩ := aI X G cd 10 11 "check_count" k9 ["rows", "most"] rfl rfl (fun _ _ _ _ _ _ us hl => match us, hl with | [_, _], _ => rfl)
  obtain ⟨D_check_new_name, a_check_new_name⟩ := aI X G cd 6 7 "check_new_name" iX ["yard", "name"] rfl rfl (fun _ _ _ _ _ _ us hl => match us, hl with | [_, _], _ => rfl)
  obtain ⟨D_check_room, a_check_room⟩ := aI X G cd 11 12 "check_room" lW ["yard", "name", "course", "left", "right"] rfl rfl (fun _ _ _ _ _ _ us hl => match us, hl with | [_, _, _, _, _], _ => rfl)
  obtain ⟨D_set_trestle, a_set_trestle⟩ := aI X G cd 19 20 "set_trestle" k8 ["yard", "name", "course", "left", "right"] rfl rfl (fun _ _ _ _ _ _ us hl => match us, hl with | [_, _, _, _, _], _ => rfl)
  obtain ⟨D_lay_board, a_lay_board⟩ := aI X G cd 20 21 "lay_board" pD ["yard", "name", "course", "left", "right", "weight"] rfl rfl (fun _ _ _ _ _ _ us hl => match us, hl with | [_, _, _, _, _, _], _ => rfl)
  obtain ⟨D_check_form, a_check_form⟩ := aI X G cd 0 1 "check_form" gz ["deed"] rfl rfl (fun _ _ _ _ _ _ us hl => match us, hl with | [_], _ => rfl)
  obtain ⟨D_check_on_board, a_check_on_board⟩ := aI X G cd 12 13 "check_on_board" iO ["row", "place"] rfl rfl (fun _ _ _ _ _ _ us hl => match us, hl with | [_, _], _ => rfl)
  obtain ⟨D_board_row, a_board_row⟩ := aI X G cd 13 14 "board_row" pZ ["yard", "name"] rfl rfl (fun _ _ _ _ _ _ us hl => match us, hl with | [_, _], _ => rfl)
  obtain ⟨D_board_or_trestle_row, a_board_or_trestle_row⟩ := aI X G cd 14 15 "board_or_trestle_row" fq ["yard", "name"] rfl rfl (fun _ _ _ _ _ _ us hl => match us, hl with | [_, _], _ => rfl)
  obtain ⟨D_sack_row, a_sack_row⟩ := aI X G cd 15 16 "sack_row" uV ["yard", "name"] rfl rfl (fun _ _ _ _ _ _ us hl => match us, hl with | [_, _], _ => rfl)
  obtain ⟨D_cord_row, a_cord_row⟩ := aI X G cd 16 17 "cord_row" uO ["yard", "name"] rfl rfl (fun _ _ _ _ _ _ us hl => match us, hl with | [_, _], _ => rfl)
  obtain ⟨D_check_no_cord, a_check_no_cord⟩ := aI X G cd 17 18 "check_no_cord" jD ["yard", "name"] rfl rfl (fun _ _ _ _ _ _ us hl => match us, hl with | [_, _], _ => rfl)
  obtain ⟨D_check_no_sack, a_check_no_sack⟩ := aI X G cd 18 19 "check_no_sack" jJ ["yard", "name"] rfl rfl (fun _ _ _ _ _ _ us hl => match us, hl with | [_, _], _ => rfl)
  obtain ⟨D_take_away, a_take_away⟩ := aI X G cd 21 22 "take_away" pK ["yard", "name"] rfl rfl (fun _ _ _ _ _ _ us hl => match us, hl with | [_, _], _ => rfl)
  obtain ⟨D_shift_sacks, a_shift_sacks⟩ := aI X G cd 23 24 "shift_sacks" kY ["yard", "board", "by"] rfl rfl (fun _ _ _ _ _ _ us hl => match us, hl with | [_, _, _], _ => rfl)
  obtain ⟨D_shift_along, a_shift_along⟩ := aI X G cd 22 23 "shift_along" kR ["yard", "name", "by"] rfl rfl (fun _ _ _ _ _ _ us hl => match us, hl with | [_, _, _], _ => rfl)
  obtain ⟨D_set_sack, a_set_sack⟩ := aI X G cd 24 25 "set_sack" se ["yard", "name", "board", "place", "weight"] rfl rfl (fun _ _ _ _ _ _ us hl => match us, hl with | [_, _, _, _, _], _ => rfl)
  obtain ⟨D_move_sack, a_move_sack⟩ := aI X G cd 25 26 "move_sack" pN ["yard", "name", "board", "place"] rfl rfl (fun _ _ _ _ _ _ us hl => match us, hl with | [_, _, _, _], _ => rfl)
  obtain ⟨D_lift_sack, a_lift_sack⟩ := aI X G cd 26 27 "lift_sack" pJ ["yard", "name"] rfl rfl (fun _ _ _ _ _ _ us hl => match us, hl with | [_, _], _ => rfl)
  obtain ⟨D_tie_cord, a_tie_cord⟩ := aI X G cd 27 28 "tie_cord" uF ["yard", "name", "upper", "lower", "place"] rfl rfl (fun _ _ _ _ _ _ us hl => match us, hl with | [_, _, _, _, _], _ => rfl)
  obtain ⟨D_cut_cord, a_cut_cord⟩ := aI X G cd 28 29 "cut_cord" vg ["yard", "name"] rfl rfl (fun _ _ _ _ _ _ us hl => match us, hl with | [_, _], _ => rfl)
  obtain ⟨D_check_day, a_check_day⟩ := aI X G cd 29 30 "check_day" j0 ["day"] rfl rfl (fun _ _ _ _ _ _ us hl => match us, hl with | [_], _ => rfl)
  obtain ⟨D_check_numbers, a_check_numbers⟩ := aI X G cd 30 31 "check_numbers" gp ["deed"] rfl rfl (fun _ _ _ _ _ _ us hl => match us, hl with | [_], _ => rfl)
  obtain ⟨D_check_names, a_check_names⟩ := aI X G cd 31 32 "check_names" iw ["deed"] rfl rfl (fun _ _ _ _ _ _ us hl => match us, hl with | [_], _ => rfl)
  obtain ⟨D_check_entry, a_check_entry⟩ := aI X G cd 32 33 "check_entry" iG ["day", "deed"] rfl rfl (fun _ _ _ _ _ _ us hl => match us, hl with | [_, _], _ => rfl)
  obtain ⟨D_words_of, a_words_of⟩ := aI X G cd 33 34 "words_of" jy ["deed"] rfl rfl (fun _ _ _ _ _ _ us hl => match us, hl with | [_], _ => rfl)
  obtain ⟨D_written_row, a_written_row⟩ := aI X G cd 34 35 "written_row" iB ["number", "day", "deed"] rfl rfl (fun _ _ _ _ _ _ us hl => match us, hl with | [_, _, _], _ => rfl)
  obtain ⟨D_written, a_written⟩ := aI X G cd 35 36 "written" kL ["diary"] rfl rfl (fun _ _ _ _ _ _ us hl => match us, hl with | [_], _ => rfl)
  obtain ⟨D__law_feed, a__law_feed⟩ := aI X G cd 36 37 "_law_feed" jU ["_law_script", "_law_many"] rfl rfl (fun _ _ _ _ _ _ us hl => match us, hl with | [_, _], _ => rfl)
  obtain ⟨D__law_names, a__law_names⟩ := aI X G cd 38 39 "_law_names" gv ["_law_d", "_law_many"] rfl rfl (fun _ _ _ _ _ _ us hl => match us, hl with | [_, _], _ => rfl)
  obtain ⟨D__law_text_of, a__law_text_of⟩ := aI X G cd 39 40 "_law_text_of" eW ["_law_deed"] rfl rfl (fun _ _ _ _ _ _ us hl => match us, hl with | [_], _ => rfl)
  obtain ⟨D__law_page, a__law_page⟩ := aI X G cd 40 41 "_law_page" iu ["_law_rows", "_law_coming"] rfl rfl (fun _ _ _ _ _ _ us hl => match us, hl with | [_, _], _ => rfl)
  obtain ⟨D__law_free_row, a__law_free_row⟩ := aI X G cd 41 42 "_law_free_row" gk ["_law_names_here", "_law_d"] rfl rfl (fun _ _ _ _ _ _ us hl => match us, hl with | [_, _], _ => rfl)
  obtain ⟨D__law_free_rows, a__law_free_rows⟩ := aI X G cd 42 43 "_law_free_rows" fL ["_law_feed_here", "_law_names_here", "_law_many"] rfl rfl (fun _ _ _ _ _ _ us hl => match us, hl with | [_, _, _], _ => rfl)
  obtain ⟨D__law_same, a__law_same⟩ := aI X G cd 37 38 "_law_same" fY ["_law_found", "_law_due"] rfl rfl (fun _ _ _ _ _ _ us hl => match us, hl with | [_, _], _ => rfl)
  obtain ⟨M_Diary_enter⟩ := e7 cd 52 147 "Diary" "enter" "Diary.enter" iI ["self", "day", "deed"] rfl rfl (fun _ _ _ _ _ _ us hl => match us, hl with | [_, _, _], _ => rfl)
  obtain ⟨M_Diary_strike⟩ := e7 cd 53 148 "Diary" "strike" "Diary.strike" gI ["self", "number"] rfl rfl (fun _ _ _ _ _ _ us hl => match us, hl with | [_, _], _ => rfl)
  obtain ⟨M_Diary_correct⟩ := e7 cd 54 149 "Diary" "correct" "Diary.correct" gm ["self", "number", "day", "deed"] rfl rfl (fun _ _ _ _ _ _ us hl => match us, hl with | [_, _, _, _], _ => rfl)
  obtain ⟨M_Diary_back⟩ := e7 cd 55 150 "Diary" "back" "Diary.back" jg ["self"] rfl rfl (fun _ _ _ _ _ _ us hl => match us, hl with | [_], _ => rfl)
  obtain ⟨M_Diary_again⟩ := e7 cd 56 151 "Diary" "again" "Diary.again" kO ["self"] rfl rfl (fun _ _ _ _ _ _ us hl => match us, hl with | [_], _ => rfl)
  obtain ⟨M_Diary_rows⟩ := e7 cd 57 152 "Diary" "rows" "Diary.rows" gy ["self"] rfl rfl (fun _ _ _ _ _ _ us hl => match us, hl with | [_], _ => rfl)
  obtain ⟨M_Diary_coming⟩ := e7 cd 58 153 "Diary" "coming" "Diary.coming" g7 ["self"] rfl rfl (fun _ _ _ _ _ _ us hl => match us, hl with | [_], _ => rfl)
  obtain ⟨M_Diary_entry⟩ := e7 cd 62 157 "Diary" "entry" "Diary.entry" iF ["self", "number"] rfl rfl (fun _ _ _ _ _ _ us hl => match us, hl with | [_, _], _ => rfl)
  obtain ⟨M_Diary_put⟩ := e7 cd 63 158 "Diary" "put" "Diary.put" jS ["self", "number", "entry"] rfl rfl (fun _ _ _ _ _ _ us hl => match us, hl with | [_, _, _], _ => rfl)
  obtain ⟨M_Diary_make⟩ := e7 cd 64 159 "Diary" "make" "Diary.make" jk ["self", "number", "old", "new"] rfl rfl (fun _ _ _ _ _ _ us hl => match us, hl with | [_, _, _, _], _ => rfl)
  obtain ⟨M_Diary_change⟩ := e7 cd 65 160 "Diary" "change" "Diary.change" gF ["self", "number", "old", "new"] rfl rfl (fun _ _ _ _ _ _ us hl => match us, hl with | [_, _, _, _], _ => rfl)
  obtain ⟨E_BadName, a_BadName⟩ := eB X G cd 46 96 "BadName" rfl rfl
  obtain ⟨E_Taken, a_Taken⟩ := eB X G cd 47 97 "Taken" rfl rfl
  obtain ⟨E_BadCourse, a_BadCourse⟩ := eB X G cd 48 98 "BadCourse" rfl rfl
  obtain ⟨E_BadPlace, a_BadPlace⟩ := eB X G cd 49 99 "BadPlace" rfl rfl
  obtain ⟨E_BadWeight, a_BadWeight⟩ := eB X G cd 50 100 "BadWeight" rfl rfl
  obtain ⟨E_Full, a_Full⟩ := eB X G cd 51 101 "Full" rfl rfl
  obtain ⟨E_Crowded, a_Crowded⟩ := eB X G cd 52 102 "Crowded" rfl rfl
  obtain ⟨E_NoThing, a_NoThing⟩ := eB X G cd 53 103 "NoThing" rfl rfl
  obtain ⟨E_InUse, a_InUse⟩ := eB X G cd 54 104 "InUse" rfl rfl
  obtain ⟨E_NoSack, a_NoSack⟩ := eB X G cd 55 105 "NoSack" rfl rfl
  obtain ⟨E_NoCord, a_NoCord⟩ := eB X G cd 56 106 "NoCord" rfl rfl
  obtain ⟨E_BadCord, a_BadCord⟩ := eB X G cd 57 107 "BadCord" rfl rfl
  obtain ⟨E_BadDeed, a_BadDeed⟩ := eB X G cd 58 108 "BadDeed" rfl rfl
  obtain ⟨E_BadDay, a_BadDay⟩ := eB X G cd 59 109 "BadDay" rfl rfl
  obtain ⟨E_NoEntry, a_NoEntry⟩ := eB X G cd 60 110 "NoEntry" rfl rfl
  obtain ⟨E_NothingThere, a_NothingThere⟩ := eB X G cd 61 111 "NothingThere" rfl rfl
  obtain ⟨M_do⟩ := sQ cd 45 135 "do" "Yard.do" wz ["self", "deed"] rfl rfl (fun _ _ _ _ _ _ us hl => match us, hl with | [_, _], _ => rfl)
  obtain ⟨M_boards⟩ := sQ cd 46 136 "boards" "Yard.boards" kX ["self"] rfl rfl (fun _ _ _ _ _ _ us hl => match us, hl with | [_], _ => rfl)
  obtain ⟨M_trestles⟩ := sQ cd 47 137 "trestles" "Yard.trestles" jI ["self"] rfl rfl (fun _ _ _ _ _ _ us hl => match us, hl with | [_], _ => rfl)
  obtain ⟨M_sacks⟩ := sQ cd 48 138 "sacks" "Yard.sacks" mX ["self"] rfl rfl (fun _ _ _ _ _ _ us hl => match us, hl with | [_], _ => rfl)
  obtain ⟨M_cords⟩ := sQ cd 49 139 "cords" "Yard.cords" mj ["self"] rfl rfl (fun _ _ _ _ _ _ us hl => match us, hl with | [_], _ => rfl)
  obtain ⟨fdI, FI0⟩ := cd.def_ 44 (d := HD.md "Yard" "__init__" "Yard.__init__" dG) rfl
  have FI : FunD K "__init__" "Yard.__init__" (defArgs dG) (defBody dG) (defScope dG) [] [] (He.ma K (He.ga K "Yard") "__init__") fdI := FI0
  have bI : Binds K fdI ["self"] [] := FI.bindsN fun _ _ _ _ _ _ us hl => match us, hl with | [_], _ => rfl
  obtain ⟨fdDiary, FJDiary⟩ := cd.def_ 51 (d := HD.md "Diary" "__init__" "Diary.__init__" cj) rfl
  have GA : FunD K "__init__" "Diary.__init__" (defArgs cj) (defBody cj) (defScope cj) [] [] (He.ma K (He.ga K "Diary") "__init__") fdDiary := FJDiary
  have NO : Binds K fdDiary ["self"] [] := GA.bindsN fun _ _ _ _ _ _ us hl => match us, hl with | [_], _ => rfl
  obtain ⟨fd, F0⟩ := cd.def_ 43 (d := HD.gd "law" wO) rfl
  have FL : FunD K "law" "law" (defArgs wO) (defBody wO) (defScope wO) [] [] (He.ga K "law") fd := F0
  have gL : mg "law" = some (.ref (He.ga K "law")) := He.glo_ok X G (cd.fact 44 (f := .glo "law") rfl)
  have e := hfa.symm.trans gL
  cases e
  have bA := FunD.bindsA (ps := ["_law_script"]) FL fun _ _ _ _ _ _ us hl => match us, hl with | [_], _ => rfl
  obtain ⟨q2, mT⟩ := He.ba c.more
  obtain ⟨q1, mE⟩ := He.ba q2
  obtain ⟨mC, mA⟩ := He.ba q1
  have kC : ∃ es n, KDict K w (He.ga K "DEED_THINGS") es n := c.t.tab 0 (t := (fun K => He.ga K "DEED_THINGS", ["trestle", "board", "away", "along", "sack", "move", "lift", "cord", "cut"])) rfl
  have kA : ∃ es n, KDict K w (He.ga K "ACTIONS") es n := c.t.tab 1 (t := (fun K => He.ga K "ACTIONS", ["trestle", "board", "away", "along", "sack", "move", "lift", "cord", "cut"])) rfl
  have vC : ∀ q ∈ counts, ∃ (u : Value) (t : Addr) (xs : List V), PySem.W.nsIn K (He.ga K "DEED_THINGS") q.1 = some (some u) ∧ RelV (.ref t) u ∧ (1 : Int) + ((xs.length : Nat) : Int) = q.2 ∧ ∀ H : Hp, SqT K H t xs := fun q hq => by
    have go : ∀ (z : Str) (m : Int), ∀ p ∈ ([("trestle", [.str "name", .str "number", .str "number", .str "number"]), ("board", [.str "name", .str "number", .str "number", .str "number", .str "number"]), ("away", [.str "name"]), ("along", [.str "name", .str "number"]), ("sack", [.str "name", .str "name", .str "number", .str "number"]), ("move", [.str "name", .str "name", .str "number"]), ("lift", [.str "name"]), ("cord", [.str "name", .str "upper", .str "name", .str "number"]), ("cut", [.str "name"])] : List (Str × List He.Dv)), p.1 = z → (1 : Int) + ((p.2.length : Nat) : Int) = m → ∃ (u : Value) (t : Addr) (xs : List V), PySem.W.nsIn K (He.ga K "DEED_THINGS") z = some (some u) ∧ RelV (.ref t) u ∧ (1 : Int) + ((xs.length : Nat) : Int) = m ∧ ∀ H : Hp, SqT K H t xs := fun z m p hp e1 e2 => by
      obtain ⟨u, t, xs, a1, a2, a3, a4⟩ := HD.fQ mC hp
      exact ⟨u, t, xs, e1 ▸ a1, a2, by rw [a3]; exact e2, a4⟩
    simp only [counts, List.mem_cons, List.not_mem_nil, or_false] at hq
    rcases hq with rfl | rfl | rfl | rfl | rfl | rfl | rfl | rfl | rfl
    · exact go _ _ _ (List.mem_of_getElem? (i := 0) rfl) rfl rfl
    · exact go _ _ _ (List.mem_of_getElem? (i := 1) rfl) rfl rfl
    · exact go _ _ _ (List.mem_of_getElem? (i := 2) rfl) rfl rfl
    · exact go _ _ _ (List.mem_of_getElem? (i := 3) rfl) rfl rfl
    · exact go _ _ _ (List.mem_of_getElem? (i := 4) rfl) rfl rfl
    · exact go _ _ _ (List.mem_of_getElem? (i := 5) rfl) rfl rfl
    · exact go _ _ _ (List.mem_of_getElem? (i := 6) rfl) rfl rfl
    · exact go _ _ _ (List.mem_of_getElem? (i := 7) rfl) rfl rfl
    · exact go _ _ _ (List.mem_of_getElem? (i := 8) rfl) rfl rfl
  have vA : ∀ (z x : Str), (z, He.Dv.glo x) ∈ ([("trestle", .glo "set_trestle"), ("board", .glo "lay_board"), ("away", .glo "take_away"), ("along", .glo "shift_along"), ("sack", .glo "set_sack"), ("move", .glo "move_sack"), ("lift", .glo "lift_sack"), ("cord", .glo "tie_cord"), ("cut", .glo "cut_cord")] : List (Str × He.Dv)) → ∃ u, PySem.W.nsIn K (He.ga K "ACTIONS") z = some (some u) ∧ RelV (.ref (He.ga K x)) u := fun z x hq => He.valsB_ok mA (q := (z, .glo x)) hq
  obtain ⟨T, hCY⟩ : ∃ T : T4 w K mg, T.CY = He.ga K "Yard" := ⟨{
      d9 := He.free_ok X G (cd.fact 72 (f := .free "isinstance") rfl), CK := He.free_ok X G (cd.fact 71 (f := .free "int") rfl), su := He.free_ok X G (cd.fact 69 (f := .free "bool") rfl), jd := He.free_ok X G (cd.fact 73 (f := .free "len") rfl), DO := He.free_ok X G (cd.fact 68 (f := .free "all") rfl),
      oh := He.int_ok X G (cd.fact 83 (f := .int "FARTHEST_PLACE" 1000000) rfl), oM := He.int_ok X G (cd.fact 84 (f := .int "HIGHEST_COURSE" 9) rfl), mS := He.int_ok X G (cd.fact 85 (f := .int "GREATEST_WEIGHT" 1000000000) rfl), cP := He.int_ok X G (cd.fact 82 (f := .int "LONGEST_NAME" 8) rfl), gB := He.str_ok X G (cd.fact 92 (f := .str "LETTERS" "abcdefghijklmnopqrstuvwxyz") rfl),
      aV := D_is_number, FA := D_is_place, B6 := D_is_course, CB := D_is_weight, cX := D_is_name, rj := D_check_course, qJ := D_check_places, qW := D_check_weight, vF := D_check_count,
      pT := E_BadCourse, sX := E_BadPlace, pM := E_BadWeight, IC := E_Full,
      AZ := He.free_ok X G (cd.fact 74 (f := .free "list") rfl), Uy := He.free_ok X G (cd.fact 75 (f := .free "max") rfl), Ue := He.free_ok X G (cd.fact 76 (f := .free "min") rfl), l7 := He.free_ok X G (cd.fact 78 (f := .free "sorted") rfl),
      vY := E_BadName, G0 := E_Taken, wB := E_Crowded, w7 := E_NoThing, GX := E_InUse, Cp := E_NoSack, Dm := E_NoCord, vW := E_BadCord, wF := E_BadDeed,
      CY := He.ga K "Yard", cl := He.cls_ok (cd.fact 129 (f := .cls "Yard") rfl), nb := He.noat_ok (cd.fact 131 (f := .noat "Yard" "board_rows") rfl), nt := He.noat_ok (cd.fact 132 (f := .noat "Yard" "trestle_rows") rfl), ns := He.noat_ok (cd.fact 133 (f := .noat "Yard" "sack_rows") rfl), nc := He.noat_ok (cd.fact 134 (f := .noat "Yard" "cord_rows") rfl),
      oG := D_check_new_name, AS := D_check_room,
      qt := He.int_ok X G (cd.fact 87 (f := .int "MOST_TRESTLES" 6) rfl), vD := He.int_ok X G (cd.fact 86 (f := .int "MOST_BOARDS" 6) rfl),
      ly := D_set_trestle, pO := D_lay_board,
      oR := D_check_on_board, CJ := D_board_row, je := D_board_or_trestle_row, EG := D_sack_row, ER := D_cord_row, qw := D_check_no_cord, qm := D_check_no_sack,
      pS := D_take_away, vK := D_shift_sacks, kZ := D_shift_along, uB := D_set_sack, pY := D_move_sack, pR := D_lift_sack, uY := D_tie_cord, sR := D_cut_cord,
      ym := He.int_ok X G (cd.fact 88 (f := .int "MOST_SACKS" 8) rfl), Ae := He.int_ok X G (cd.fact 89 (f := .int "MOST_CORDS" 4) rfl), zq := He.str_ok X G (cd.fact 93 (f := .str "BEAM" "") rfl), Vv := He.ga K "BEAM_ROW", EZ := He.glo_ok X G (cd.fact 66 (f := .glo "BEAM_ROW") rfl), Wa := fun H => He.tupB_ok mT H,
      aC := He.ga K "DEED_THINGS", aA := He.ga K "ACTIONS", cI := He.glo_ok X G (cd.fact 64 (f := .glo "DEED_THINGS") rfl), HB := He.glo_ok X G (cd.fact 65 (f := .glo "ACTIONS") rfl), kC := kC, kA := kA, vC := vC,
      aT := by rw [a_set_trestle]; exact vA "trestle" "set_trestle" (by simp),
      aB := by rw [a_lay_board]; exact vA "board" "lay_board" (by simp),
      Wx := by rw [a_take_away]; exact vA "away" "take_away" (by simp),
      Wl := by rw [a_shift_along]; exact vA "along" "shift_along" (by simp),
      V4 := by rw [a_set_sack]; exact vA "sack" "set_sack" (by simp),
      Wu := by rw [a_move_sack]; exact vA "move" "move_sack" (by simp),
      Wg := by rw [a_lift_sack]; exact vA "lift" "lift_sack" (by simp),
      Ws := by rw [a_tie_cord]; exact vA "cord" "tie_cord" (by simp),
      Wd := by rw [a_cut_cord]; exact vA "cut" "cut_cord" (by simp),
      bW := D_check_form, Fw := He.ma K (He.ga K "Yard") "__init__", AB := fdI, NK := nB FI, M4 := bI, NJ := He.mkr_ok (cd.fact 130 (f := .mkr "Yard") rfl), Pd := He.glo_ok X G (cd.fact 62 (f := .glo "Yard") rfl),
      Hx := M_do, vG := M_boards, qg := M_trestles, z5 := M_sacks, xN := M_cords }, rfl⟩
  let We : TB w K mg := {
      y := T,
      DO := He.free_ok X G (cd.fact 68 (f := .free "all") rfl),
      su := He.free_ok X G (cd.fact 69 (f := .free "bool") rfl),
      CK := He.free_ok X G (cd.fact 71 (f := .free "int") rfl),
      d9 := He.free_ok X G (cd.fact 72 (f := .free "isinstance") rfl),
      jd := He.free_ok X G (cd.fact 73 (f := .free "len") rfl),
      l7 := He.free_ok X G (cd.fact 78 (f := .free "sorted") rfl),
      mR := He.free_ok X G (cd.fact 79 (f := .free "str") rfl),
      qC := He.free_ok X G (cd.fact 80 (f := .free "tuple") rfl),
      Ge := He.free_ok X G (cd.fact 81 (f := .free "zip") rfl),
      zq := He.str_ok X G (cd.fact 93 (f := .str "BEAM" "") rfl),
      pH := He.str_ok X G (cd.fact 94 (f := .str "BEAM_WORD" "-") rfl),
      eV := He.int_ok X G (cd.fact 91 (f := .int "GREATEST_NUMBER" 9999999999) rfl),
      sd := He.int_ok X G (cd.fact 90 (f := .int "LAST_DAY" 9999) rfl),
      gB := He.str_ok X G (cd.fact 92 (f := .str "LETTERS" "abcdefghijklmnopqrstuvwxyz") rfl),
      cP := He.int_ok X G (cd.fact 82 (f := .int "LONGEST_NAME" 8) rfl),
      bM := He.ga K "DEED_THINGS",
      cI := He.glo_ok X G (cd.fact 64 (f := .glo "DEED_THINGS") rfl),
      cH := c.t.tab 0 (t := (fun K => He.ga K "DEED_THINGS", ["trestle", "board", "away", "along", "sack", "move", "lift", "cord", "cut"])) rfl,
      iH := fun q hq => by
        simp only [List.mem_cons, List.not_mem_nil, or_false] at hq
        rcases hq with rfl | rfl | rfl | rfl | rfl | rfl | rfl | rfl | rfl
        · obtain ⟨u, t, xs, a1, a2, a3, a4⟩ := HD.fQ mC (List.mem_of_getElem? (i := 0) rfl)
          exact ⟨u, t, xs, a1, a2, a3, a4⟩
        · obtain ⟨u, t, xs, a1, a2, a3, a4⟩ := HD.fQ mC (List.mem_of_getElem? (i := 1) rfl)
          exact ⟨u, t, xs, a1, a2, a3, a4⟩
        · obtain ⟨u, t, xs, a1, a2, a3, a4⟩ := HD.fQ mC (List.mem_of_getElem? (i := 2) rfl)
          exact ⟨u, t, xs, a1, a2, a3, a4⟩
        · obtain ⟨u, t, xs, a1, a2, a3, a4⟩ := HD.fQ mC (List.mem_of_getElem? (i := 3) rfl)
          exact ⟨u, t, xs, a1, a2, a3, a4⟩
        · obtain ⟨u, t, xs, a1, a2, a3, a4⟩ := HD.fQ mC (List.mem_of_getElem? (i := 4) rfl)
          exact ⟨u, t, xs, a1, a2, a3, a4⟩
        · obtain ⟨u, t, xs, a1, a2, a3, a4⟩ := HD.fQ mC (List.mem_of_getElem? (i := 5) rfl)
          exact ⟨u, t, xs, a1, a2, a3, a4⟩
        · obtain ⟨u, t, xs, a1, a2, a3, a4⟩ := HD.fQ mC (List.mem_of_getElem? (i := 6) rfl)
          exact ⟨u, t, xs, a1, a2, a3, a4⟩
        · obtain ⟨u, t, xs, a1, a2, a3, a4⟩ := HD.fQ mC (List.mem_of_getElem? (i := 7) rfl)
          exact ⟨u, t, xs, a1, a2, a3, a4⟩
        · obtain ⟨u, t, xs, a1, a2, a3, a4⟩ := HD.fQ mC (List.mem_of_getElem? (i := 8) rfl)
          exact ⟨u, t, xs, a1, a2, a3, a4⟩,
      iM := fun q hq => by
        simp only [List.mem_cons, List.not_mem_nil, or_false] at hq
        rcases hq with rfl | rfl | rfl | rfl | rfl | rfl | rfl | rfl | rfl
        · exact HD.gw mC (List.mem_of_getElem? (i := 0) rfl)
        · exact HD.gw mC (List.mem_of_getElem? (i := 1) rfl)
        · exact HD.gw mC (List.mem_of_getElem? (i := 2) rfl)
        · exact HD.gw mC (List.mem_of_getElem? (i := 3) rfl)
        · exact HD.gw mC (List.mem_of_getElem? (i := 4) rfl)
        · exact HD.gw mC (List.mem_of_getElem? (i := 5) rfl)
        · exact HD.gw mC (List.mem_of_getElem? (i := 6) rfl)
        · exact HD.gw mC (List.mem_of_getElem? (i := 7) rfl)
        · exact HD.gw mC (List.mem_of_getElem? (i := 8) rfl),
      aU := He.ga K "Diary",
      az := He.cls_ok (cd.fact 141 (f := .cls "Diary") rfl),
      GP := He.glo_ok X G (cd.fact 63 (f := .glo "Diary") rfl),
      aW := He.noat_ok (cd.fact 143 (f := .noat "Diary" "entries") rfl),
      bH := He.noat_ok (cd.fact 144 (f := .noat "Diary" "following") rfl),
      cW := He.noat_ok (cd.fact 145 (f := .noat "Diary" "changes") rfl),
      bq := He.noat_ok (cd.fact 146 (f := .noat "Diary" "changes_taken_back") rfl),
      aV := D_is_number,
      bW := D_check_form,
      dX := D_check_day,
      bT := D_check_numbers,
      cM := D_check_names,
      bx := D_check_entry,
      eK := D_words_of,
      cJ := D_written_row,
      bX := M_Diary_enter,
      cQ := M_Diary_strike,
      cz := M_Diary_correct,
      d7 := M_Diary_back,
      vv := M_Diary_again,
      cE := M_Diary_rows,
      cV := M_Diary_coming,
      bY := M_Diary_entry,
      cZ := M_Diary_put,
      d8 := M_Diary_make,
      aX := M_Diary_change,
      qD := He.ma K (He.ga K "Diary") "__init__",
      mO := fdDiary,
      Cc := nB GA,
      C8 := NO,
      CT := He.mkr_ok (cd.fact 142 (f := .mkr "Diary") rfl) }
  let V8 : TD w K mg := {
      toTB := We,
      QE := He.free_ok X G (cd.fact 70 (f := .free "dict") rfl) }
  let V6 : TL w K mg := {
      toTD := V8,
      AZ := He.free_ok X G (cd.fact 74 (f := .free "list") rfl),
      jC := He.free_ok X G (cd.fact 77 (f := .free "range") rfl),
      cg := D_written,
      dY := D__law_feed,
      dh := D__law_names,
      cu := D__law_text_of,
      bh := D__law_page,
      bU := D__law_free_row,
      bE := D__law_free_rows,
      pI := ⟨He.ga K "law", fd, nB FL, gL, FL.bindsN fun _ _ _ _ _ _ us hl => match us, hl with | [_], _ => rfl⟩,
      aE := D__law_same }
  refine ⟨fd, fun s v => bA s [v] rfl, fun base _ _ => ?_⟩
  exact LF (P := P) (w := w) (base := base) V6
end DY
open PySem PySem.W PySem.Calls PyProof.Rows
set_option maxHeartbeats 0 in
theorem DY.main_of (LF : DY.OW) : PySem.Challenge.rw_dunnage_k45_pages_written.Holds := by
  w_on; o_law
  refine HX.NV (r := OpenLaw.row PySem.Challenge.rw_dunnage_k45_pages_written) (q := view (OpenLaw.row PySem.Challenge.rw_dunnage_k45_pages_written).prog [86]) (H := HD.hk) (loose := HD.loose) (d := HandSHeadRun.topDef (OpenLaw.row PySem.Challenge.rw_dunnage_k45_pages_written).prog 86) HD.left
    (by kernel_rfl) (by kernel_rfl) (by kernel_rfl) (by rfl) (by first | assumption | decide +kernel) (by decide +kernel) ⟨rfl, rfl, rfl, rfl, rfl, by decide +kernel⟩ ?hw ?hc
  case hw => w_witness2
  case hc =>
    refine L2.walk_ofE (l := PySem.Challenge.rw_dunnage_k45_pages_written) (n := 63) (k := 8) (x := "_law_script") (CX := L2.CX0) rfl (by decide) (by kernel_rfl) ⟨rfl, by decide, by decide⟩ ?F (fun _ _ _ _ z => z)
    intro w mg fa h Y G hmg0
    obtain ⟨K, KX, c⟩ := Y
    have hmg : mg ("law" : PySem.Str) = some (.ref fa) := by
      have e : (HandSHeadRun.topDef (OpenLaw.row PySem.Challenge.rw_dunnage_k45_pages_written).prog 86).name = ("law" : PySem.Str) := by kernel_rfl
      rw [← e]
      exact hmg0
    obtain ⟨fd, hb, hF⟩ := DY.facts LF (P := (PySem.Challenge.rw_dunnage_k45_pages_written).prog) (w := w) KX G hmg c
    exact ⟨K, fd, DY.GW K, KX, hb, fun H a ns hl _ hS => ⟨a, ns, rfl, hS, fun _ => rfl⟩, hF⟩
end
namespace DY
open PySem PySem.Spec PyProof.Rows L2 DL
def Fd (l : List Int) : Prop := ∀ x ∈ l, 0 ≤ x ∧ x < 1000003
theorem Fd.snoc {l : List Int} {x : Int} (h : Fd l) (h0 : 0 ≤ x) (h1 : x < 1000003) : Fd (l ++ [x]) := fun y hy => by
  rcases List.mem_append.mp hy with z | z
  · exact h y z
  · rw [List.mem_singleton.mp z]; exact ⟨h0, h1⟩
theorem cy (a : Int) {b : Int} (h : 0 < b) : 0 ≤ a.fmod b ∧ a.fmod b < b := ⟨Int.fmod_nonneg_of_pos a h, Int.fmod_lt_of_pos a h⟩
def HW (a0 a1 : Sl) (l : List Int) (t : Int) (a4 a5 a6 : Sl) : En := [a0, a1, .ow (l.map .int), .sh (.int t), a4, a5, a6]
theorem GH (a0 a1 a4 : Sl) (t : Int) : ∀ (xs : List Dt) (l : List Int) (r : Int) (a6 : Sl), Fd l → l.length + xs.length ≤ 900000 → ∃ l' r' a6', bz (fName 6) fN xs (HW a0 a1 l t a4 (.sh (.int r)) a6) = some (.nx (HW a0 a1 l' t a4 (.sh (.int r')) a6')) ∧ Fd l' ∧ l'.length ≤ l.length + xs.length
  | [], l, r, a6, h, _ => ⟨l, r, a6, rfl, h, Nat.le_refl _⟩
  | x :: xs, l, r, a6, h, hl => by
    rw [List.length_cons] at hl ⊢
    rw [bz]
    by_cases h0 : 0 < r
    · have e1 : decide (0 < r) = true := decide_eq_true h0
      obtain ⟨m1, m2⟩ := cy r (show (0 : Int) < 1009 by decide)
      obtain ⟨l', r', a6', e, h1, h2⟩ := GH a0 a1 a4 t xs (l ++ [r.fmod 1009]) (r.fdiv 1009) (.sh x) (h.snoc m1 (by omega)) (by rw [List.length_append]; show l.length + 1 + xs.length ≤ _; omega)
      rw [List.length_append] at h2
      refine ⟨l', r', a6', ?_, h1, by simp only [List.length_cons, List.length_nil] at h2; omega⟩
      unfold HW at e ⊢
      simp! [fN, e1, jq (show (1009 : Int) ≠ 0 by decide)]
      rw [fR (ds := l.map .int) rfl (by rw [List.length_map]; omega)]
      simp! [Eo (i := r) (show (1009 : Int) ≠ 0 by decide) (by decide)]
      rw [List.map_append] at e
      exact e
    · have e1 : decide (0 < r) = false := decide_eq_false h0
      obtain ⟨l', r', a6', e, h1, h2⟩ := GH a0 a1 a4 t xs l r (.sh x) h (by omega)
      refine ⟨l', r', a6', ?_, h1, by omega⟩
      unfold HW at e ⊢
      simp! [fN, e1]
      exact e
theorem Om : FG (.int 10) (.int 18) = some (.int 1000000000000000000) := (rfl)
theorem Lk (a0 a1 : Sl) : ∀ (ns : List Int) (l : List Int) (t : Int) (a4 a5 a6 : Sl), Fd l → 0 ≤ t → t < 2147483647 → l.length + 61 * ns.length ≤ 900000 → ∃ l' t' a4' a5' a6', bz (fName 4) fV (ns.map .int) (HW a0 a1 l t a4 a5 a6) = some (.nx (HW a0 a1 l' t' a4' a5' a6')) ∧ Fd l' ∧ l'.length ≤ l.length + 61 * ns.length ∧ 0 ≤ t' ∧ t' < 2147483647
  | [], l, t, a4, a5, a6, h, h0, h1, _ => ⟨l, t, a4, a5, a6, rfl, h, Nat.le_refl _, h0, h1⟩
  | x :: ns, l, t, a4, a5, a6, h, h0, h1, hl => by
    rw [List.length_cons] at hl ⊢
    obtain ⟨m1, m2⟩ := cy x (show (0 : Int) < 2147483629 by decide)
    obtain ⟨m3, m4⟩ := cy x (show (0 : Int) < 1000003 by decide)
    obtain ⟨t1, t2⟩ := cy (t * 48271 + x.fmod 2147483629 + 7) (show (0 : Int) < 2147483647 by decide)
    have b1 : Bd 31 t := by unfold Bd; omega
    have r60 : lE [.int 60] = some (dI 0 60) := rfl
    have l60 : (dI 0 60).length = 60 := by unfold dI; simp
    rw [List.map_cons, bz]
    by_cases hx : x - 1000000000000000000 < 0
    · have e1 : decide (x - 1000000000000000000 < 0) = true := decide_eq_true hx
      have hm : Fd (l ++ [x.fmod 1000003]) := h.snoc m3 m4
      obtain ⟨l2, r2, s6, e2, f2, g2⟩ := GH a0 a1 (.sh (.int x)) ((t * 48271 + x.fmod 2147483629 + 7).fmod 2147483647) (dI 0 60) (l ++ [x.fmod 1000003]) (x - 1000000000000000000) a6 hm (by rw [List.length_append, l60]; show l.length + 1 + 60 ≤ _; omega)
      have g3 : l2.length ≤ l.length + 61 := by rw [List.length_append, l60] at g2; simp only [List.length_cons, List.length_nil] at g2; omega
      obtain ⟨l', t', a4', a5', a6', e, f, g, k1, k2⟩ := Lk a0 a1 ns l2 _ (.sh (.int x)) (.sh (.int r2)) s6 f2 t1 t2 (by omega)
      refine ⟨l', t', a4', a5', a6', ?_, f, by omega, k1, k2⟩
      unfold HW at e2 e ⊢
      simp! [fV, jq (i := x) (show (2147483629 : Int) ≠ 0 by decide)]
      rw [gT b1 (show Bd 16 48271 by unfold Bd; decide) (by decide)]
      simp! [jq (show (2147483647 : Int) ≠ 0 by decide), Om, e1, jq (i := x) (show (1000003 : Int) ≠ 0 by decide)]
      rw [fR (ds := l.map .int) rfl (by rw [List.length_map]; omega)]
      simp! [r60]
      rw [List.map_append] at e2
      rw [show List.map Dt.int [x.fmod 1000003] = [.int (x.fmod 1000003)] from rfl] at e2
      rw [e2]
      exact e
    · have e1 : decide (x - 1000000000000000000 < 0) = false := decide_eq_false hx
      obtain ⟨l2, r2, s6, e2, f2, g2⟩ := GH a0 a1 (.sh (.int x)) ((t * 48271 + x.fmod 2147483629 + 7).fmod 2147483647) (dI 0 60) l (x - 1000000000000000000) a6 h (by rw [l60]; omega)
      rw [l60] at g2
      obtain ⟨l', t', a4', a5', a6', e, f, g, k1, k2⟩ := Lk a0 a1 ns l2 _ (.sh (.int x)) (.sh (.int r2)) s6 f2 t1 t2 (by omega)
      refine ⟨l', t', a4', a5', a6', ?_, f, by omega, k1, k2⟩
      unfold HW at e2 e ⊢
      simp! [fV, jq (i := x) (show (2147483629 : Int) ≠ 0 by decide)]
      rw [gT b1 (show Bd 16 48271 by unfold Bd; decide) (by decide)]
      simp! [jq (show (2147483647 : Int) ≠ 0 by decide), Om, e1, r60]
      rw [e2]
      exact e
theorem Og (a0 a1 a4 a5 : Sl) : ∀ (ks : List Int) (l : List Int) (t : Int) (a6 : Sl), (∀ k ∈ ks, 0 ≤ k ∧ k < 1000000) → Fd l → 0 ≤ t → t < 2147483647 → l.length + ks.length ≤ 900000 → ∃ l' t' a6', bz (fName 6) iE (ks.map .int) (HW a0 a1 l t a4 a5 a6) = some (.nx (HW a0 a1 l' t' a4 a5 a6')) ∧ Fd l' ∧ l'.length = l.length + ks.length
  | [], l, t, a6, _, h, _, _, _ => ⟨l, t, a6, rfl, h, rfl⟩
  | k :: ks, l, t, a6, hk, h, h0, h1, hl => by
    rw [List.length_cons] at hl ⊢
    obtain ⟨k0, k1⟩ := hk k List.mem_cons_self
    obtain ⟨t1, t2⟩ := cy (t * t * t + 69621 * t + 17 * k + 3) (show (0 : Int) < 2147483629 by decide)
    obtain ⟨m1, m2⟩ := cy (((t * t * t + 69621 * t + 17 * k + 3).fmod 2147483629).fdiv 1013) (show (0 : Int) < 1009 by decide)
    have b1 : Bd 31 t := by unfold Bd; omega
    have bk : Bd 20 k := by unfold Bd; omega
    obtain ⟨l', t', a6', e, f, g⟩ := Og a0 a1 a4 a5 ks (l ++ [(((t * t * t + 69621 * t + 17 * k + 3).fmod 2147483629).fdiv 1013).fmod 1009]) ((t * t * t + 69621 * t + 17 * k + 3).fmod 2147483629) (.sh (.int k)) (fun q hq => hk q (List.mem_cons_of_mem _ hq)) (h.snoc m1 (by omega)) t1 (by omega) (by rw [List.length_append]; show l.length + 1 + ks.length ≤ _; omega)
    refine ⟨l', t', a6', ?_, f, by rw [g, List.length_append]; show l.length + 1 + ks.length = _; omega⟩
    rw [List.map_cons, bz]
    unfold HW at e ⊢
    simp! [iE]
    rw [gT b1 b1 (by decide)]
    simp!
    rw [gT (b1.mul b1) b1 (by decide), gT (show Bd 17 69621 by unfold Bd; decide) b1 (by decide), gT (show Bd 5 17 by unfold Bd; decide) bk (by decide)]
    simp! [jq (show (2147483629 : Int) ≠ 0 by decide), Eo (show (1013 : Int) ≠ 0 by decide) (show nb 1013 < 9000 by decide), jq (show (1009 : Int) ≠ 0 by decide)]
    rw [fR (ds := l.map .int) rfl (by rw [List.length_map]; omega)]
    simp!
    rw [List.map_append] at e
    exact e
theorem rG (lo : Int) (n : Nat) : dI lo n = ((List.range n).map fun i : Nat => lo + (i : Nat)).map .int := by
  unfold dI
  rw [List.map_map]; rfl
theorem v9 (xs : List Dt) (n : Nat) : DL.cutD xs none (some (n : Int)) = xs.take n := by
  unfold DL.cutD
  rw [HT.sIx_none, HT.sIx_nat, List.drop_zero, Nat.sub_zero]
  rw [List.take_eq_take_iff]
  omega
theorem nN (xs : List Dt) (n : Nat) : DL.cutD xs (some (n : Int)) none = xs.drop n := by
  unfold DL.cutD
  rw [HT.sIx_none, HT.sIx_nat]
  by_cases h : n ≤ xs.length
  · rw [show min n xs.length = n by omega, List.take_of_length_le (by rw [List.length_drop]; omega)]
  · rw [show min n xs.length = xs.length by omega, List.drop_eq_nil_of_le (Nat.le_refl _), List.drop_eq_nil_of_le (by omega), List.take_nil]
theorem N5 (ns : List Int) (n : Nat) (hn : n ≤ 1000) : ∃ d : List Int, eS [.scr ns, .int n] = some (.lst (d.map .int)) ∧ d.length = n ∧ Fd d := by
  have Wv : HL (.scr ns) none (some 63) = some (.lst ((ns.take 63).map .int)) := by
    show some (Dt.lst (DL.cutD (ns.map .int) none (some (63 : Nat)))) = _
    rw [v9, ← List.map_take]
  have hl : (ns.take 63).length ≤ 63 := by rw [List.length_take]; omega
  obtain ⟨l1, t1, a4, a5, a6, e1, f1, g1, k1, k2⟩ := Lk (.sh (.scr ns)) (.sh (.int n)) (ns.take 63) [] 71 .no .no .no (fun x hx => by cases hx) (by decide) (by decide) (by simp only [List.length_nil]; omega)
  simp only [List.length_nil] at g1
  obtain ⟨l2, t2, a6', e2, f2, g2⟩ := Og (.sh (.scr ns)) (.sh (.int n)) a4 a5 ((List.range ((n : Int) - l1.length).toNat).map fun i : Nat => (0 : Int) + (i : Nat)) l1 t1 a6 (fun k hk => by
    obtain ⟨i, hi, rfl⟩ := List.mem_map.mp hk
    have := List.mem_range.mp hi
    omega) f1 k1 k2 (by rw [List.length_map, List.length_range]; omega)
  rw [List.length_map, List.length_range] at g2
  refine ⟨l2.take n, ?_, by rw [List.length_take]; omega, fun x hx => f2 x (List.mem_of_mem_take hx)⟩
  unfold HW at e1 e2
  unfold eS jX
  simp! [Wv]
  rw [show ([] : List Dt) = ([] : List Int).map .int from rfl, e1]
  have er : lE [.int ((n : Int) - ((l1.map Dt.int).length : Nat))] = some (dI 0 ((n : Int) - l1.length).toNat) := by
    rw [List.length_map]
    exact if_pos (by omega)
  simp! [er]
  rw [rG, e2]
  simp!
  have e9 : HL (.lst (l2.map .int)) none (some (n : Int)) = some (.lst ((l2.take n).map .int)) := by
    show some (Dt.lst (DL.cutD (l2.map .int) none (some (n : Int)))) = _
    rw [v9, ← List.map_take]
  simp! [e9]
end DY
namespace DY
open PySem PySem.Spec PyProof.Rows L2 DL
def NY (Y : Yd) (n : Str) : P6 := (getT Y.bo n).getD (0, 0, 0, 0)
abbrev sn (Y : Yd) : List Str := Oe (Y.sa.map (·.1))
end DY
namespace DY
open PySem PySem.Spec PyProof.Rows L2 DL
abbrev Hz (s : Str) : Prop := PyData.strOk s = true
end DY
namespace DY
open PySem PySem.Spec PyProof.Rows L2 DL
theorem Wy (d : List Int) (k : Nat) (h : k < d.length) : cY (.lst (d.map .int)) (.int (k : Nat)) = some (.int (d[k]'h)) := by
  rw [jG, List.getElem?_map, List.getElem?_eq_getElem h]; rfl
theorem BS {d : List Int} {i : Int} (h : Fd d) (h0 : 0 ≤ i) (h1 : i < d.length) : ∃ x, cY (.lst (d.map .int)) (.int i) = some (.int x) ∧ 0 ≤ x ∧ x < 1000003 := by
  obtain ⟨k, rfl⟩ := Int.eq_ofNat_of_zero_le h0
  have hk : k < d.length := by omega
  exact ⟨d[k], Wy d k hk, h _ (List.getElem_mem hk)⟩
theorem fm (x : Int) {m : Int} (h : 0 < m) : ∃ y, x.fmod m = y ∧ 0 ≤ y ∧ y < m := ⟨_, rfl, cy x h⟩
theorem aL {x m : Int} (h : 0 < m) : dD (.int x) (.int m) = some (.int (x.fmod m)) := jq (by omega)
theorem MQ {k : Nat} {i : Int} (h1 : -(2 ^ k : Nat) < i) (h2 : i < (2 ^ k : Nat)) : Bd k i := by unfold Bd; omega
theorem Hu : FG (.int 10) (.int 6) = some (.int 1000000) := (rfl)
theorem Cd (xs : List Dt) (a b : Nat) : DL.cutD xs (some (a : Int)) (some (b : Int)) = (xs.drop a).take (b - a) := by
  unfold DL.cutD
  rw [HT.sIx_nat, HT.sIx_nat]
  by_cases h : a ≤ xs.length
  · rw [show min a xs.length = a by omega]
    refine List.take_eq_take_iff.mpr ?_
    rw [List.length_drop]
    omega
  · rw [show min a xs.length = xs.length by omega, List.drop_eq_nil_of_le (Nat.le_refl _), List.drop_eq_nil_of_le (show xs.length ≤ a by omega), List.take_nil, List.take_nil]
end DY
namespace DY
open PySem PySem.Spec PyProof.Rows L2 DL
section
variable {P : Nat → Prop}
theorem LG {x y : Str} (hx : ∀ c ∈ x.cps.toList, P c) (hy : ∀ c ∈ y.cps.toList, P c) : ∀ c ∈ (x ++ y).cps.toList, P c := by
  intro c hc
  rw [PySem.Str.cps_append, Array.toList_append, List.mem_append] at hc
  exact hc.elim (hx c) (hy c)
theorem Pu : ∀ c ∈ (Str.ofString "").cps.toList, P c := by
  have e : (Str.ofString "").cps.toList = [] := by decide +kernel
  intro c hc
  rw [e] at hc
  cases hc
theorem Dk : ∀ {ys : List Str}, (∀ y ∈ ys, ∀ c ∈ y.cps.toList, P c) → ∀ c ∈ (Str.join (Str.ofString "") ys).cps.toList, P c
  | [], _ => fun c hc => nomatch hc
  | [y], h => h y List.mem_cons_self
  | y :: z :: r, h => by
    show ∀ c ∈ (y ++ Str.ofString "" ++ Str.join (Str.ofString "") (z :: r)).cps.toList, P c
    exact LG (LG (h y List.mem_cons_self) Pu) (Dk fun y hy => h y (List.mem_cons_of_mem _ hy))
theorem NT {ys : List Str} (h : ∀ y ∈ ys, ∀ c ∈ y.cps.toList, P c) : ∀ c ∈ (Txt.join (Str.ofString "") ys).cps.toList, P c := by
  show ∀ c ∈ (Builtin.Str.glued (Str.ofString "") ys).cps.toList, P c
  rw [StrLaws.glued_eq_join]
  exact Dk h
end
def CC (x : Int) : Nat := (aR.cps.toList)[(x % 26).toNat]?.getD 0
theorem Vk (x : Int) : CC x ∈ aR.cps.toList ∧ atI aR.cps.toList (x % 26) = some (CC x) := by
  have m : 0 ≤ x % 26 ∧ x % 26 < 26 := ⟨Int.emod_nonneg _ (by decide), Int.emod_lt_of_pos _ (by decide)⟩
  obtain ⟨j, ej⟩ := Int.eq_ofNat_of_zero_le m.1
  have hj : j < aR.cps.toList.length := by
    have : aR.cps.toList.length = 26 := by decide
    omega
  unfold CC
  rw [ej, Int.toNat_natCast, List.getElem?_eq_getElem hj, Option.getD_some]
  exact ⟨List.getElem_mem hj, (by rw [DL.atI_nat, List.getElem?_eq_getElem hj])⟩
theorem Ny : ∀ i, i < 26 → ∀ j, j < 26 → (aR.cps.toList)[i]?.getD 0 = (aR.cps.toList)[j]?.getD 0 → i = j := by decide +kernel
theorem MR {x y : Int} (h : CC x = CC y) : x % 26 = y % 26 := by
  have m : 0 ≤ x % 26 ∧ x % 26 < 26 := ⟨Int.emod_nonneg _ (by decide), Int.emod_lt_of_pos _ (by decide)⟩
  have m' : 0 ≤ y % 26 ∧ y % 26 < 26 := ⟨Int.emod_nonneg _ (by decide), Int.emod_lt_of_pos _ (by decide)⟩
  have z := Ny (x % 26).toNat (by omega) (y % 26).toNat (by omega) h
  omega
def Ib (bs : Str) (a : Int) (c : Nat) : Str := cutS bs none (some a) ++ (⟨#[c]⟩ : Str) ++ cutS bs (some a) none
theorem zv {bs : Str} {a : Nat} (h : a ≤ bs.length) (c : Nat) : (Ib bs (a : Int) c).cps.toList = bs.cps.toList.take a ++ (c :: bs.cps.toList.drop a) := by
  have l : bs.cps.toList.length = bs.length := Array.length_toList
  have e1 : (cutS bs none (some (a : Int))).cps.toList = bs.cps.toList.take a := by
    show ((bs.cps.toList.drop (HT.sIx bs.length 0 none)).take (HT.sIx bs.length bs.length (some (a : Int)) - HT.sIx bs.length 0 none)).toArray.toList = _
    rw [HT.sIx_nat, show HT.sIx bs.length 0 none = 0 from rfl, List.drop_zero, Nat.sub_zero, Nat.min_eq_left h]
  have e2 : (cutS bs (some (a : Int)) none).cps.toList = bs.cps.toList.drop a := by
    show ((bs.cps.toList.drop (HT.sIx bs.length 0 (some (a : Int)))).take (HT.sIx bs.length bs.length none - HT.sIx bs.length 0 (some (a : Int)))).toArray.toList = _
    rw [HT.sIx_nat, show HT.sIx bs.length bs.length none = bs.length from rfl, Nat.min_eq_left h, List.toList_toArray, List.take_of_length_le (by rw [List.length_drop, l]; omega)]
  unfold Ib
  rw [PySem.Str.cps_append, PySem.Str.cps_append, Array.toList_append, Array.toList_append, e1, e2, List.append_assoc]
  rfl
theorem NS {bs : Str} {a : Nat} (h : a ≤ bs.length) {c d : Nat} (e : Ib bs (a : Int) c = Ib bs (a : Int) d) : c = d := by
  have z : (Ib bs (a : Int) c).cps.toList = (Ib bs (a : Int) d).cps.toList := by rw [e]
  rw [zv h, zv h] at z
  have y := List.append_cancel_left z
  exact (List.cons.inj y).1
theorem Qy {bs : Str} {a : Nat} (h : a ≤ bs.length) (hl : bs.length ≤ 7) (hb : ∀ c ∈ bs.cps.toList, c ∈ aR.cps.toList) {c : Nat} (hc : c ∈ aR.cps.toList) : isName (Ib bs (a : Int) c) = true := by
  have e := zv h c
  have l : bs.cps.toList.length = bs.length := Array.length_toList
  have ln : (Ib bs (a : Int) c).length = bs.length + 1 := by
    show (Ib bs (a : Int) c).cps.size = _
    rw [← Array.length_toList, e, List.length_append, List.length_cons, List.length_take, List.length_drop, l]
    omega
  unfold isName
  rw [ln, e]
  simp only [Bool.and_eq_true, decide_eq_true_eq, List.all_eq_true]
  refine ⟨by omega, by omega, fun x hx => ?_⟩
  rcases List.mem_append.mp hx with z | z
  · exact hb x (List.mem_of_mem_take z)
  · rcases List.mem_cons.mp z with z | z
    · rw [z]; exact hc
    · exact hb x (List.mem_of_mem_drop z)
theorem Cr : ∀ {ys : List Str}, (∀ y ∈ ys, y.length = 1) → (ys.map (·.length)).sum = ys.length
  | [], _ => rfl
  | y :: ys, h => by
    rw [List.map_cons, List.sum_cons, Cr (fun z hz => h z (List.mem_cons_of_mem _ hz)), h y List.mem_cons_self, List.length_cons]
    omega
theorem Cn {z : Str} (h : isName z = true) : Hz z := by
  have n := (gY h).2
  unfold isName at h
  simp only [Bool.and_eq_true, decide_eq_true_eq, List.all_eq_true] at h
  have lo : ∀ c ∈ aR.cps.toList, c < 0x110000 := by decide +kernel
  unfold Hz PyData.strOk
  rw [← Array.all_toList, List.all_eq_true]
  exact fun c hc => decide_eq_true (lo c (h.2.2 c hc))
theorem EU : ("abcdefghijklmnopqrstuvwxyz" : Str) = aR := rfl
theorem wQ (x : Int) : cY (.str aR) (.int (x.fmod 26)) = some (.str ⟨#[CC x]⟩) := by
  show (if sz aR.length = true then (atI aR.cps.toList (x.fmod 26)).map fun c => Dt.str ⟨#[c]⟩ else none) = _
  rw [if_pos (by decide), Int.fmod_eq_emod_of_nonneg _ (by decide), (Vk x).2]
  rfl
theorem sq (a0 a1 a2 : Sl) (bs : Str) (at_ : Nat) (hat : at_ ≤ bs.length) (VI : bs.length ≤ 7) (d : List Int) (x3 : Int) (h3 : cY (.lst (d.map .int)) (.int 3) = some (.int x3)) : ∀ (ks : List Int) (acc : List Str) (s6 s7 : Sl), (∀ k ∈ ks, 0 ≤ k ∧ k < 100) → acc.length + ks.length ≤ 1000 → ∃ s6' s7',
    bz (fName 6) gP (ks.map .int) [.sh (.lst (d.map .int)), a1, .sh (.str aR), .sh (.str bs), .sh (.int at_), .ow (acc.map .str), s6, s7] = some (.nx [.sh (.lst (d.map .int)), a1, .sh (.str aR), .sh (.str bs), .sh (.int at_), .ow ((acc ++ ks.map fun k => Ib bs at_ (CC (x3 + 7 * k))).map .str), s6', s7'])
  | [], acc, s6, s7, _, _ => ⟨s6, s7, by simp only [List.map_nil, List.append_nil]; rfl⟩
  | k :: ks, acc, s6, s7, hk, hl => by
    rw [List.length_cons] at hl
    obtain ⟨k0, k1⟩ := hk k List.mem_cons_self
    obtain ⟨s6', s7', ih⟩ := sq a0 a1 a2 bs at_ hat VI d x3 h3 ks (acc ++ [Ib bs at_ (CC (x3 + 7 * k))]) (.sh (.int k)) (.sh (.str ⟨#[CC (x3 + 7 * k)]⟩)) (fun q hq => hk q (List.mem_cons_of_mem _ hq)) (by rw [List.length_append]; simp only [List.length_cons, List.length_nil]; omega)
    refine ⟨s6', s7', ?_⟩
    have c1 := cutS_length bs none (some (at_ : Int))
    have c2 := cutS_length bs (some (at_ : Int)) none
    have d1 : HL (.str bs) none (some (at_ : Int)) = some (.str (cutS bs none (some (at_ : Int)))) := gb (uN (by omega))
    have d2 : HL (.str bs) (some (at_ : Int)) none = some (.str (cutS bs (some (at_ : Int)) none)) := gb (uN (by omega))
    have l1 : (⟨#[CC (x3 + 7 * k)]⟩ : Str).length = 1 := rfl
    have l2 : (cutS bs none (some (at_ : Int)) ++ (⟨#[CC (x3 + 7 * k)]⟩ : Str)).length = (cutS bs none (some (at_ : Int))).length + 1 := by
      show (Array.append _ _).size = _
      rw [Array.append_eq_append, Array.size_append]; rfl
    rw [List.map_cons, bz]
    simp! [gP, h3]
    rw [gT (show Bd 3 7 from MQ (by decide) (by decide)) (show Bd 7 k from MQ (by omega) (by omega)) (by decide)]
    simp! [aL (show (0 : Int) < 26 by decide), wQ, d1, d2]
    rw [o5 (by rw [l1]; omega)]
    simp!
    rw [o5 (by rw [l2]; omega), fR (ds := acc.map .str) rfl (by rw [List.length_map]; omega)]
    simp!
    rw [List.map_append, List.append_assoc] at ih
    exact ih
theorem M7 {N : Nat} (hN : N ≤ 26) {d : List Int} (hd : Fd d) (hl : 4 ≤ d.length) : ∃ zs : List Str, eg [.lst (d.map .int), .int (N : Nat)] = some (.lst (zs.map .str)) ∧ zs.length = N ∧ (∀ z ∈ zs, isName z = true) ∧ zs.Nodup := by
  obtain ⟨x0, i0, _, _⟩ := BS hd (i := 0) (by decide) (by omega)
  obtain ⟨x1, i1, _, _⟩ := BS hd (i := 1) (by decide) (by omega)
  obtain ⟨x2, i2, _, _⟩ := BS hd (i := 2) (by decide) (by omega)
  obtain ⟨x3, i3, _, _⟩ := BS hd (i := 3) (by decide) (by omega)
  obtain ⟨m8, e8, p0, p1⟩ := fm x1 (m := 8) (by decide)
  obtain ⟨n8, rfl⟩ := Int.eq_ofNat_of_zero_le p0
  let fk : Int → Int := fun k => x0 + (k + 1) * x1.fdiv 8
  have q0 := Int.fdiv_nonneg (show 0 ≤ x1 by omega) (show (0 : Int) ≤ 8 by decide)
  have q1 : x1.fdiv 8 ≤ 1000003 := by rw [Mx (by decide)]; omega
  have TX : ∀ (a1 : Sl), kT (lE [.int (n8 : Nat)]) (fD (fName 6) (fun e => some true) (fun e => o2 cY (ao e 2) (o2 dD (o2 cA (o2 cY (ao e 0) (some (.int 0))) (o2 jN (o2 cA (ao e 6) (some (.int 1))) (o2 HP (o2 cY (ao e 0) (some (.int 1))) (some (.int 8))))) (some (.int 26)))) [.sh (.lst (d.map .int)), a1, .sh (.str aR), .no, .no, .no, .no, .no]) = some (((List.range n8).map fun i : Nat => (⟨#[CC (fk i)]⟩ : Str)).map .str) := by
    intro a1
    have er : lE [.int (n8 : Nat)] = some ((List.range n8).map fun i : Nat => Dt.int (i : Nat)) := by
      show (if -1000000 ≤ (n8 : Int) ∧ (n8 : Int) ≤ 1000000 then some (dI 0 (n8 : Int).toNat) else none) = _
      rw [if_pos (by omega), Int.toNat_natCast]
      unfold dI
      simp only [Int.zero_add]
    rw [er, mL (by rw [List.length_map, List.length_range]; omega), List.map_map]
    refine gD (fun i : Nat => Dt.int (i : Nat)) (fun i : Nat => Dt.str ⟨#[CC (fk i)]⟩) (List.range n8) fun i hi => ⟨[.sh (.lst (d.map .int)), a1, .sh (.str aR), .no, .no, .no, .sh (.int (i : Nat)), .no], ?_, rfl, ?_⟩
    · simp!
    · have hi := List.mem_range.mp hi
      simp! [i0, i1, Eo (i := x1) (show (8 : Int) ≠ 0 by decide) (show nb 8 < 9000 by decide)]
      rw [gT (show Bd 5 ((i : Int) + 1) from MQ (by omega) (by omega)) (show Bd 20 (x1.fdiv 8) from MQ (by omega) (by omega)) (by decide)]
      simp! [aL (show (0 : Int) < 26 by decide), wQ]
      rfl
  let ys : List Str := (List.range n8).map fun i : Nat => (⟨#[CC (fk i)]⟩ : Str)
  have yl : ys.length = n8 := by show (List.map _ _).length = _; rw [List.length_map, List.length_range]
  have y1 : ∀ y ∈ ys, y.length = 1 := fun y hy => by obtain ⟨i, _, rfl⟩ := List.mem_map.mp hy; rfl
  have y2 : ∀ y ∈ ys, ∀ c ∈ y.cps.toList, c ∈ aR.cps.toList := fun y hy c hc => by
    obtain ⟨i, _, rfl⟩ := List.mem_map.mp hy
    have hc : c ∈ [CC (fk i)] := hc
    rw [List.mem_singleton.mp hc]
    exact (Vk _).1
  have b1 : ∀ c ∈ (Txt.join (Str.ofString "") ys).cps.toList, c ∈ aR.cps.toList := NT y2
  have ej : gu (some (.str "")) (some (.lst (ys.map .str))) = some (.str (Txt.join "" ys)) := by
    show (gr (ys.map .str)).bind _ = _
    rw [Ho, Option.bind_some]
    exact gb (decide_eq_true (by
      have e0 : ("" : Str).length = 0 := by decide +kernel
      rw [Cr y1, e0]
      omega))
  have bl : (Txt.join (Str.ofString "") ys).length ≤ 7 := by
    rw [PySem.W.KT.join_ones ys y1]
    omega
  have VL : gu (some (.str "")) (some (.lst (((List.range n8).map fun i : Nat => (⟨#[CC (fk i)]⟩ : Str)).map .str))) = some (.str (Txt.join "" ys)) := ej
  generalize VI : Txt.join (Str.ofString "") ys = bs at bl b1 VL
  obtain ⟨a, ea, a0, a1⟩ := fm x2 (m := (bs.length : Int) + 1) (by omega)
  obtain ⟨at_, rfl⟩ := Int.eq_ofNat_of_zero_le a0
  have hat : at_ ≤ bs.length := by omega
  have Vo : qh [.str bs] = some (.int (bs.length : Nat)) := by
    show (if sz bs.length = true then _ else _) = _
    exact if_pos (uN (by omega))
  have Wn : lE [.int (N : Nat)] = some (((List.range N).map fun i : Nat => ((i : Nat) : Int)).map .int) := by
    show (if -1000000 ≤ (N : Int) ∧ (N : Int) ≤ 1000000 then some (dI 0 (N : Int).toNat) else none) = _
    rw [if_pos (by omega), Int.toNat_natCast, rG]
    simp only [Int.zero_add]
  obtain ⟨s6', s7', e⟩ := sq .no (.sh (.int (N : Nat))) .no bs at_ hat bl d x3 i3 ((List.range N).map fun i : Nat => ((i : Nat) : Int)) [] .no .no (fun k hk => by
    obtain ⟨i, hi, rfl⟩ := List.mem_map.mp hk
    have := List.mem_range.mp hi
    omega) (by rw [List.length_map, List.length_range]; show 0 + N ≤ 1000; omega)
  rw [List.nil_append, List.map_nil] at e
  refine ⟨((List.range N).map fun i : Nat => ((i : Nat) : Int)).map fun k => Ib bs at_ (CC (x3 + 7 * k)), ?_, by rw [List.length_map, List.length_map, List.length_range], fun z hz => ?_, ?_⟩
  · unfold eg jo
    simp! [i1, aL (show (0 : Int) < 8 by decide), e8, EU, TX, VL, i2, Vo, aL (show (0 : Int) < (bs.length : Int) + 1 by omega), ea, Wn]
    rw [e]
    simp!
  · obtain ⟨i, _, rfl⟩ := List.mem_map.mp hz
    exact Qy hat bl b1 (Vk _).1
  · rw [List.map_map]
    refine List.pairwise_map.mpr (List.nodup_range.imp_of_mem fun {i j} hi hj ne z => ?_)
    have h1 : (x3 + 7 * (i : Int)) % 26 = (x3 + 7 * (j : Int)) % 26 := MR (NS hat z)
    have := List.mem_range.mp hi
    have := List.mem_range.mp hj
    omega
end DY
namespace DY
open PySem PySem.Spec PyProof.Rows L2 DL
def U5 : dz → Nat
  | .tre .. => 6 | .boa .. => 6 | .sac .. => 8 | .cor .. => 4 | _ => 0
def Vd (Y : Yd) : dz → Nat
  | .tre .. => Y.tr.length | .boa .. => Y.bo.length | .sac .. => Y.sa.length | .cor .. => Y.co.length | _ => 0
def Ui (c l r : Int) : Bool := decide (l < -1000000) || (decide (1000000 < r) || !(decide (0 < c) && decide (c < 10)))
def OS (Y : Yd) (d : dz) : Bool := (match d with
  | .tre n c l r => !(Ui c l r || uw Y n c l r)
  | .boa n c l r _ => !(Ui c l r || uw Y n c l r)
  | _ => true) && (!taken Y (dN d) && decide (Vd Y d < U5 d))
end DY
namespace DY
open PySem PySem.Spec PyProof.Rows L2 DL
theorem UU (x : Int) {m : Nat} (h : 0 < m) : ∃ k : Nat, x.fmod (m : Int) = (k : Int) ∧ k < m := by
  obtain ⟨h1, h2⟩ := cy x (show (0 : Int) < m by omega)
  obtain ⟨k, hk⟩ := Int.eq_ofNat_of_zero_le h1
  exact ⟨k, hk, by omega⟩
theorem pick {α : Type} (D : α → Dt) {l : List α} (x : Int) (h : l ≠ []) : ∃ a ∈ l, o2 cY (some (.lst (l.map D))) (o2 dD (some (.int x)) ((ai (some (.lst (l.map D))) (some [])).bind qh)) = some (D a) := by
  have hp : 0 < l.length := List.length_pos_iff.mpr h
  obtain ⟨k, hk, hk2⟩ := UU x hp
  refine ⟨l[k], List.getElem_mem hk2, ?_⟩
  simp! [List.length_map, aL (show (0 : Int) < (l.length : Nat) by omega), hk]
  rw [jG, List.getElem?_map, List.getElem?_eq_getElem hk2]
  rfl
theorem UL (x : Int) (a b : Int) : ∃ y, cY (.lst [.int a, .int b]) (.int (x.fmod 2)) = some (.int y) ∧ (y = a ∨ y = b) := by
  obtain ⟨h1, h2⟩ := cy x (show (0 : Int) < 2 by decide)
  have : x.fmod 2 = 0 ∨ x.fmod 2 = 1 := by omega
  rcases this with e | e <;> rw [e]
  · exact ⟨a, jG _ 0, .inl rfl⟩
  · exact ⟨b, jG _ 1, .inr rfl⟩
end DY
namespace DY
open PySem PySem.Spec PyProof.Rows L2 DL
structure Drawn (Y : Yd) (b : Str) (p : Int) : Prop where
  mb : b ∈ Y.bo.map (·.1)
  le : (NY Y b).2.1 ≤ p
  ge : p ≤ (NY Y b).2.2.1
end DY
namespace DY
open PySem PySem.Spec PyProof.Rows L2 DL
structure Ij (Y : Yd) : Prop where
  nm : ∀ z ∈ Cb Y, isName z = true
  bo : ∀ q ∈ Y.bo, f6 q.2.1 = true ∧ isPlace q.2.2.1 = true ∧ isPlace q.2.2.2.1 = true ∧ q.2.2.1 < q.2.2.2.1 ∧ iV q.2.2.2.2 = true
  tr : ∀ q ∈ Y.tr, f6 q.2.1 = true ∧ isPlace q.2.2.1 = true ∧ isPlace q.2.2.2 = true ∧ q.2.2.1 ≤ q.2.2.2
  sa : ∀ q ∈ Y.sa, q.2.1 ∈ Y.bo.map (·.1) ∧ isPlace q.2.2.1 = true ∧ iV q.2.2.2 = true
  co : ∀ q ∈ Y.co, (q.2.1 = "" ∨ q.2.1 ∈ Y.bo.map (·.1)) ∧ q.2.2.1 ∈ Y.bo.map (·.1) ∧ isPlace q.2.2.2 = true
  few : Wm Y
theorem dQ {α : Type} {T : List α} {x q : α} (h : q ∈ T ++ [x]) : q ∈ T ∨ q = x := by
  rcases List.mem_append.mp h with z | z
  · exact .inl z
  · exact .inr (List.mem_singleton.mp z)
theorem wU {l r p : Int} (h : M9 l r p = true) : isPlace p = true := by
  unfold M9 at h
  rw [Bool.and_eq_true] at h
  exact h.1
theorem BN {α : Type} {T : List (Str × α)} {n : Str} {x : α} (h : getT T n = some x) : n ∈ T.map (·.1) := List.mem_map_of_mem (f := (·.1)) (Ih h)
theorem HJ {Y : Yd} {d : dz} (F : Ij Y) (hs : sets d = true) (hf : fault Y d = none) : Ij (step Y d) := by
  obtain ⟨F1, F2, F3, F4, F5, f1, f2, f3, f4⟩ := F
  cases d with
  | tre n c l r =>
    obtain ⟨a1, a2, a3, a4, a5, a6, a7⟩ := fT.mp hf
    rw [Bool.and_eq_true] at a4
    refine ⟨fun z hz => ?_, F2, fun q hq => ?_, F4, F5, by show (Y.tr ++ _).length ≤ 6; rw [List.length_append]; simp only [List.length_cons, List.length_nil]; omega, f2, f3, f4⟩
    · rw [aq] at hz
      rcases hz with z' | z' | z' | z'
      · obtain ⟨q, hq, rfl⟩ := List.mem_map.mp z'
        rcases dQ hq with h | h
        · exact F1 _ (aq.mpr (.inl (List.mem_map_of_mem h)))
        · rw [h]; exact a1
      · exact F1 _ (aq.mpr (.inr (.inl z')))
      · exact F1 _ (aq.mpr (.inr (.inr (.inl z'))))
      · exact F1 _ (aq.mpr (.inr (.inr (.inr z'))))
    · rcases dQ hq with h | h
      · exact F3 q h
      · rw [h]; exact ⟨a3, a4.1, a4.2, by show l ≤ r; omega⟩
  | boa n c l r w =>
    obtain ⟨a1, a2, a3, a4, a5, a6, a7, a8⟩ := fB.mp hf
    rw [Bool.and_eq_true] at a4
    have sub : ∀ z, z ∈ Y.bo.map (·.1) → z ∈ (Y.bo ++ [(n, c, l, r, w)]).map (·.1) := fun z hz => by rw [List.map_append]; exact List.mem_append.mpr (.inl hz)
    refine ⟨fun z hz => ?_, fun q hq => ?_, F3, fun q hq => ⟨sub _ (F4 q hq).1, (F4 q hq).2⟩, fun q hq => ⟨(F5 q hq).1.imp id (sub _), sub _ (F5 q hq).2.1, (F5 q hq).2.2⟩, f1, by show (Y.bo ++ _).length ≤ 6; rw [List.length_append]; simp only [List.length_cons, List.length_nil]; omega, f3, f4⟩
    · rw [aq] at hz
      rcases hz with z' | z' | z' | z'
      · exact F1 _ (aq.mpr (.inl z'))
      · obtain ⟨q, hq, rfl⟩ := List.mem_map.mp z'
        rcases dQ hq with h | h
        · exact F1 _ (aq.mpr (.inr (.inl (List.mem_map_of_mem h))))
        · rw [h]; exact a1
      · exact F1 _ (aq.mpr (.inr (.inr (.inl z'))))
      · exact F1 _ (aq.mpr (.inr (.inr (.inr z'))))
    · rcases dQ hq with h | h
      · exact F2 q h
      · rw [h]; exact ⟨a3, a4.1, a4.2, by show l < r; omega, a6⟩
  | sac n b p w =>
    obtain ⟨a1, a2, ⟨x, a3, a4⟩, a5, a6⟩ := fS.mp hf
    refine ⟨fun z hz => ?_, F2, F3, fun q hq => ?_, F5, f1, f2, by show (Y.sa ++ _).length ≤ 8; rw [List.length_append]; simp only [List.length_cons, List.length_nil]; omega, f4⟩
    · rw [aq] at hz
      rcases hz with z' | z' | z' | z'
      · exact F1 _ (aq.mpr (.inl z'))
      · exact F1 _ (aq.mpr (.inr (.inl z')))
      · obtain ⟨q, hq, rfl⟩ := List.mem_map.mp z'
        rcases dQ hq with h | h
        · exact F1 _ (aq.mpr (.inr (.inr (.inl (List.mem_map_of_mem h)))))
        · rw [h]; exact a1
      · exact F1 _ (aq.mpr (.inr (.inr (.inr z'))))
    · rcases dQ hq with h | h
      · exact F4 q h
      · rw [h]; exact ⟨BN a3, wU a4, a5⟩
  | cor n u lo p =>
    obtain ⟨a1, a2, ⟨y, x, a3, a4, a5, a6, a7⟩, a8⟩ := fC.mp hf
    refine ⟨fun z hz => ?_, F2, F3, F4, fun q hq => ?_, f1, f2, f3, by show (Y.co ++ _).length ≤ 4; rw [List.length_append]; simp only [List.length_cons, List.length_nil]; omega⟩
    · rw [aq] at hz
      rcases hz with z' | z' | z' | z'
      · exact F1 _ (aq.mpr (.inl z'))
      · exact F1 _ (aq.mpr (.inr (.inl z')))
      · exact F1 _ (aq.mpr (.inr (.inr (.inl z'))))
      · obtain ⟨q, hq, rfl⟩ := List.mem_map.mp z'
        rcases dQ hq with h | h
        · exact F1 _ (aq.mpr (.inr (.inr (.inr (List.mem_map_of_mem h)))))
        · rw [h]; exact a1
    · rcases dQ hq with h | h
      · exact F5 q h
      · rw [h]
        refine ⟨?_, BN a4, wU a7⟩
        by_cases e : u = ""
        · exact .inl e
        · right
          unfold Gr at a3
          rw [if_neg e] at a3
          cases e2 : getT Y.bo u with
          | none => rw [e2] at a3; cases a3
          | some v => exact BN e2
  | _ => cases hs
end DY
namespace DY
open PySem PySem.Spec PyProof.Rows L2 DL
def EA (Y : Yd) : dz → Prop
  | .tre n _ l r => isName n = true ∧ l ≤ r
  | .boa n _ l r w => isName n = true ∧ l < r ∧ 1 ≤ w ∧ w ≤ 1000000
  | .sac n b p w => isName n = true ∧ Drawn Y b p ∧ 1 ≤ w ∧ w ≤ 1000
  | .cor n u b p => isName n = true ∧ Drawn Y b p ∧ (u = "" ∨ (Drawn Y u p ∧ (NY Y b).1 < (NY Y u).1))
  | _ => False
theorem EA.name {Y : Yd} {d : dz} (h : EA Y d) : isName (dN d) = true := by
  cases d <;> first | exact h.1 | cases h
theorem EA.sets {Y : Yd} {d : dz} (h : EA Y d) : DY.sets d = true := by
  cases d <;> first | rfl | cases h
def VC : dz → Prop
  | .boa _ _ _ _ g => g ≤ 1000000
  | .sac _ _ _ g => g ≤ 1000000
  | _ => True
theorem EA.wt {Y : Yd} {d : dz} (h : EA Y d) : VC d := by
  cases d with
  | boa n c l r g => exact h.2.2.2
  | sac n b p g => have := h.2.2.2; show g ≤ 1000000; omega
  | _ => exact trivial
def lvl (C : Int) : dz → Prop
  | .tre _ c _ _ => c = C ∨ C + 2 ≤ c
  | .boa _ c _ _ _ => C + 1 ≤ c
  | _ => True
def UY (ds : List dz) : Prop := ds = [] ∨ ∃ n C l r t, ds = .tre n C l r :: t ∧ ∀ d ∈ ds, lvl C d
def Us (ds : List dz) (d : dz) : Prop := (ds = [] → ∃ n C l r, d = .tre n C l r) ∧ ∀ n C l r t, ds = .tre n C l r :: t → lvl C d
theorem UY.add {ds : List dz} {d : dz} (h : UY ds) (a : Us ds d) : UY (ds ++ [d]) := by
  rcases h with rfl | ⟨n, C, l, r, t, rfl, h⟩
  · obtain ⟨n, C, l, r, rfl⟩ := a.1 rfl
    exact .inr ⟨n, C, l, r, [], rfl, fun d hd => by rcases List.mem_cons.mp hd with rfl | hd; exact .inl rfl; cases hd⟩
  · refine .inr ⟨n, C, l, r, t ++ [d], rfl, fun e he => ?_⟩
    rcases List.mem_append.mp he with he | he
    · exact h e he
    · rcases List.mem_cons.mp he with rfl | he
      · exact a.2 n C l r t rfl
      · cases he
structure pX (zs : List Str) (k : Nat) (ds : List dz) (Y : Yd) : Prop where
  run : Run y0 ds Y
  st : ∀ d ∈ ds, sets d = true ∧ Tr (-3 * (k : Int)) (41 + 5 * (k : Int)) d
  Ut : Ij Y
  VB : Std Y
  wi : Within Y (-3 * (k : Int)) (41 + 5 * (k : Int))
  nm : ∀ z ∈ Cb Y, z ∈ zs.take k
  len : ds.length ≤ k
  wt : ∀ d ∈ ds, VC d
  lv : UY ds
theorem Within.mono {Y : Yd} {lo hi lo' hi' : Int} (h : Within Y lo hi) (h1 : lo' ≤ lo) (h2 : hi ≤ hi') : Within Y lo' hi' := fun q hq => by
  obtain ⟨a, b, c⟩ := h q hq
  exact ⟨by omega, b, by omega⟩
theorem Tr.mono {d : dz} {lo hi lo' hi' : Int} (h : Tr lo hi d) (h1 : lo' ≤ lo) (h2 : hi ≤ hi') : Tr lo' hi' d := by
  cases d <;> first | exact trivial | (have h : lo ≤ _ ∧ _ ≤ hi := h; exact ⟨by omega, by omega⟩)
theorem KL {zs : List Str} {k : Nat} {z : Str} (h : z ∈ zs.take k) : z ∈ zs.take (k + 1) := by
  have : (zs.take (k + 1)).take k = zs.take k := by rw [List.take_take]; congr 1; omega
  rw [← this] at h
  exact List.mem_of_mem_take h
theorem pX.skip {zs : List Str} {k : Nat} {ds : List dz} {Y : Yd} (h : pX zs k ds Y) : pX zs (k + 1) ds Y :=
  ⟨h.run, fun d hd => ⟨(h.st d hd).1, (h.st d hd).2.mono (by omega) (by omega)⟩, h.Ut, h.VB, h.wi.mono (by omega) (by omega), fun z hz => KL (h.nm z hz), by have := h.len; omega, h.wt, h.lv⟩
theorem HE {Y : Yd} {d : dz} (hs : sets d = true) {z : Str} (h : z ∈ Cb (step Y d)) : z ∈ Cb Y ∨ z = dN d := by
  rw [aq] at h
  cases d with
  | tre n c l r =>
    rcases h with h | h | h | h
    · obtain ⟨q, hq, rfl⟩ := List.mem_map.mp h
      rcases dQ hq with e | e
      · exact .inl (aq.mpr (.inl (List.mem_map_of_mem e)))
      · rw [e]; exact .inr rfl
    · exact .inl (aq.mpr (.inr (.inl h)))
    · exact .inl (aq.mpr (.inr (.inr (.inl h))))
    · exact .inl (aq.mpr (.inr (.inr (.inr h))))
  | boa n c l r w =>
    rcases h with h | h | h | h
    · exact .inl (aq.mpr (.inl h))
    · obtain ⟨q, hq, rfl⟩ := List.mem_map.mp h
      rcases dQ hq with e | e
      · exact .inl (aq.mpr (.inr (.inl (List.mem_map_of_mem e))))
      · rw [e]; exact .inr rfl
    · exact .inl (aq.mpr (.inr (.inr (.inl h))))
    · exact .inl (aq.mpr (.inr (.inr (.inr h))))
  | sac n b p w =>
    rcases h with h | h | h | h
    · exact .inl (aq.mpr (.inl h))
    · exact .inl (aq.mpr (.inr (.inl h)))
    · obtain ⟨q, hq, rfl⟩ := List.mem_map.mp h
      rcases dQ hq with e | e
      · exact .inl (aq.mpr (.inr (.inr (.inl (List.mem_map_of_mem e)))))
      · rw [e]; exact .inr rfl
    · exact .inl (aq.mpr (.inr (.inr (.inr h))))
  | cor n u b p =>
    rcases h with h | h | h | h
    · exact .inl (aq.mpr (.inl h))
    · exact .inl (aq.mpr (.inr (.inl h)))
    · exact .inl (aq.mpr (.inr (.inr (.inl h))))
    · obtain ⟨q, hq, rfl⟩ := List.mem_map.mp h
      rcases dQ hq with e | e
      · exact .inl (aq.mpr (.inr (.inr (.inr (List.mem_map_of_mem e)))))
      · rw [e]; exact .inr rfl
  | _ => cases hs
theorem pX.add {zs : List Str} {k : Nat} {ds : List dz} {Y : Yd} (h : pX zs k ds Y) {d : dz} (hc : EA Y d) (hi : Tr (-3 * ((k + 1 : Nat) : Int)) (41 + 5 * ((k + 1 : Nat) : Int)) d) (hn : zs[k]? = some (dN d)) (hf : fault Y d = none) (hv : Us ds d) : pX zs (k + 1) (ds ++ [d]) (step Y d) := by
  have s := h.skip
  refine ⟨h.run.snoc hf, fun e he => ?_, HJ h.Ut hc.sets hf, I6 h.VB hf, CO s.wi hc.sets hi hf, fun z hz => ?_, by rw [List.length_append]; have := h.len; simp only [List.length_cons, List.length_nil]; omega, fun e he => (dQ he).elim (h.wt e) fun z => z ▸ hc.wt, h.lv.add hv⟩
  · rcases dQ he with e' | e'
    · exact s.st e e'
    · rw [e']; exact ⟨hc.sets, hi⟩
  · rcases HE hc.sets hz with e | e
    · exact s.nm z e
    · rw [e]
      obtain ⟨hk, e2⟩ := List.getElem?_eq_some_iff.mp hn
      rw [← e2]
      exact List.mem_take_iff_getElem.mpr ⟨k, by omega, rfl⟩
theorem pX.non {zs : List Str} {k : Nat} {Y : Yd} (h : pX zs k [] Y) : Y = y0 := by cases h.run; rfl
end DY
namespace DY
open PySem PySem.Spec PyProof.Rows L2 DL
theorem Js {d : List Int} (a : Nat) : HL (.lst (d.map .int)) (some (a : Int)) none = some (.lst ((d.drop a).map .int)) := by
  show some (Dt.lst (DL.cutD _ (some (a : Int)) none)) = _
  rw [nN, List.map_drop]
theorem Fd.drop {d : List Int} (h : Fd d) (n : Nat) : Fd (d.drop n) := fun x hx => h x (List.mem_of_mem_drop hx)
theorem Fd.take {d : List Int} (h : Fd d) (n : Nat) : Fd (d.take n) := fun x hx => h x (List.mem_of_mem_take hx)
def CS (a b c : Nat) (Y Y' : Yd) : Prop := Y'.tr.length ≤ Y.tr.length + a ∧ Y'.bo.length ≤ Y.bo.length + b ∧ Y'.co.length ≤ Y.co.length + c ∧ Y'.sa.length + (a + b + c) ≤ Y.sa.length + 1
theorem CS.of {Y Y' : Yd} {dd : dz} {ds ds' : List dz} {a b c : Nat} (h : (OS Y dd = false ∧ Y' = Y ∧ ds' = ds) ∨ (OS Y dd = true ∧ Y' = step Y dd ∧ ds' = ds ++ [dd])) (k : CS a b c Y (step Y dd)) (h1 : a + b + c ≤ 1 := by decide) : CS a b c Y Y' := by
  rcases h with ⟨_, rfl, _⟩ | ⟨_, rfl, _⟩
  · exact ⟨Nat.le_add_right _ _, Nat.le_add_right _ _, Nat.le_add_right _ _, by omega⟩
  · exact k
theorem CS.tre (Y : Yd) (n : Str) (c l r : Int) : CS 1 0 0 Y (step Y (.tre n c l r)) := ⟨by show (Y.tr ++ _).length ≤ _; rw [List.length_append]; exact Nat.le_refl _, Nat.le_refl _, Nat.le_refl _, Nat.le_refl _⟩
theorem CS.boa (Y : Yd) (n : Str) (c l r w : Int) : CS 0 1 0 Y (step Y (.boa n c l r w)) := ⟨Nat.le_refl _, by show (Y.bo ++ _).length ≤ _; rw [List.length_append]; exact Nat.le_refl _, Nat.le_refl _, Nat.le_refl _⟩
theorem CS.sac (Y : Yd) (n b : Str) (p w : Int) : CS 0 0 0 Y (step Y (.sac n b p w)) := ⟨Nat.le_refl _, Nat.le_refl _, Nat.le_refl _, by show (Y.sa ++ _).length + 0 ≤ _; rw [List.length_append]; exact Nat.le_refl _⟩
theorem CS.cor (Y : Yd) (n u lo : Str) (p : Int) : CS 0 0 1 Y (step Y (.cor n u lo p)) := ⟨Nat.le_refl _, Nat.le_refl _, by show (Y.co ++ _).length ≤ _; rw [List.length_append]; exact Nat.le_refl _, Nat.le_refl _⟩
end DY
namespace DY
open PySem PySem.Spec PyProof.Rows L2 DL
def cT (w : Str) : Bool := w == "trestle" || w == "top"
def cB (w : Str) : Bool := w == "board"
def cC (w : Str) : Bool := w == "cord"
def cK (w : Str) : Bool := w == "sack"
def Nq (ks : List Str) (k : Nat) (Y : Yd) : Prop := Y.tr.length ≤ (ks.take k).countP cT ∧ Y.bo.length ≤ (ks.take k).countP cB ∧ Y.co.length ≤ (ks.take k).countP cC ∧ Y.sa.length ≤ (ks.take k).countP cK
theorem Nq.next {ks : List Str} {k : Nat} {w : Str} (hw : ks[k]? = some w) {Y Y' : Yd} (h : Nq ks k Y) {a b c : Nat} (hs : CS a b c Y Y') (ha : a = if cT w = true then 1 else 0) (hb : b = if cB w = true then 1 else 0) (hc : c = if cC w = true then 1 else 0) (hk : 1 ≤ a + b + c + (if cK w = true then 1 else 0)) : Nq ks (k + 1) Y' := by
  have e : ks.take (k + 1) = ks.take k ++ [w] := by rw [List.take_add_one, hw]; rfl
  unfold Nq
  rw [e, List.countP_append, List.countP_append, List.countP_append, List.countP_append, List.countP_singleton, List.countP_singleton, List.countP_singleton, List.countP_singleton, ← ha, ← hb, ← hc]
  obtain ⟨h1, h2, h3, h4⟩ := h
  obtain ⟨g1, g2, g3, g4⟩ := hs
  exact ⟨by omega, by omega, by omega, by omega⟩
end DY
namespace DY
open PySem PySem.Spec PyProof.Rows L2 DL
section
variable {Y : Yd}
theorem l1 : wN [("weight", 2), ("move", 1), ("trestle", 1), ("cord", 1)] (.str "weight") = some (.int 2) := (by rfl)
theorem l2 : wN [("weight", 2), ("move", 1), ("trestle", 1), ("cord", 1)] (.str "move") = some (.int 1) := (by rfl)
end
end DY
namespace DY
open PySem PySem.Spec PyProof.Rows L2 DL
section
variable {Y : Yd}
def Hj (c : List Int) : Prop := ∀ k, (c.getD k 0).natAbs ≤ 2 ^ (if k % 2 = 0 then 0 else 32)
theorem Hj.set {c : List Int} (h : Hj c) (i : Nat) (x : Int) (hx : x.natAbs ≤ 2 ^ (if i % 2 = 0 then 0 else 32)) : Hj (c.set i x) := fun k => by
  rw [List.getD_eq_getElem?_getD, List.getElem?_set]
  split
  · next e =>
    subst e
    split
    · exact hx
    · exact Nat.zero_le _
  · rw [← List.getD_eq_getElem?_getD]
    exact h k
theorem Hj.app {c : List Int} (h : Hj c) {n : Nat} (hl : c.length = 2 * n) (x : Int) (hx : x.natAbs ≤ 1) : Hj (c ++ [x]) := fun k => by
  rw [List.getD_eq_getElem?_getD, List.getElem?_append]
  split
  · rw [← List.getD_eq_getElem?_getD]
    exact h k
  · next hk =>
    by_cases e : k = c.length
    · subst e
      rw [Nat.sub_self]
      refine Nat.le_trans hx ?_
      exact Nat.one_le_two_pow
    · rw [List.getElem?_eq_none (by show 1 ≤ _; omega)]
      exact Nat.zero_le _
end
end DY
namespace DY
open PySem PySem.Spec PyProof.Rows L2 DL
theorem Ti (a : Dt) (r : List Dt) : cY (.lst (a :: r)) (.int 0) = some a := jG _ 0
end DY
namespace DY
open PySem PySem.Spec PyProof.Rows L2 DL
structure vM (D : Di) : Prop where
  up : (D.es.map (·.1)).Pairwise (· < ·)
  lo : ∀ n ∈ D.es.map (·.1), n < D.fo
def aY (q : Int × bN) : Dt := .tup [.int q.1, .int q.2.1, .tup (q.2.2.map kD)]
theorem qH {T : List (Int × bN)} (h : (T.map (·.1)).Pairwise (· < ·)) {q : Int × bN} (hq : q ∈ T) : dH T q.1 = some q.2 := by
  induction T with
  | nil => cases hq
  | cons p T ih =>
    obtain ⟨h1, h2⟩ := List.pairwise_cons.mp h
    rw [kI]
    rcases List.mem_cons.mp hq with rfl | hq
    · rw [if_pos rfl]
    · have : p.1 < q.1 := h1 q.1 (List.mem_map_of_mem hq)
      rw [if_neg (by omega)]
      exact ih h2 hq
theorem HA {T : List (Int × bN)} {n : Int} (h : n ∉ T.map (·.1)) : dH T n = none := by
  induction T with
  | nil => rfl
  | cons p T ih =>
    rw [kI, if_neg fun z => h (by rw [← z]; exact List.mem_cons_self)]
    exact ih fun z => h (List.mem_cons_of_mem _ z)
theorem Nu {D : Di} (h : vM D) : yw D = D.es.map aY := by
  have e : sortI (D.es.map (·.1)) = D.es.map (·.1) := lC (uZ _) h.up fun k => nI _ k
  unfold yw
  rw [e, List.map_map]
  refine List.map_congr_left fun q hq => ?_
  show DX D q.1 = aY q
  unfold DX
  rw [qH h.up hq]
  rfl
theorem OI {D : Di} (h : vM D) (hl : D.es.length < 64) : JM (.dia D) = some (D.es.map aY) := by
  rw [← Nu h]
  exact if_pos ⟨hl, h.up.imp fun z => by omega⟩
theorem Tz : vM d0 := ⟨.nil, fun n hn => by cases hn⟩
theorem iY {D : Di} (h : vM D) (e : bN) : (aJ D e).es = D.es ++ [(D.fo, e)] ∧ (aJ D e).fo = D.fo + 1 ∧ vM (aJ D e) := by
  have hn : D.fo ∉ D.es.map (·.1) := fun z => by have := h.lo _ z; omega
  have e1 : (aJ D e).es = D.es ++ [(D.fo, e)] := by
    show tY D.es D.fo e = _
    unfold tY
    rw [HA hn, if_neg (by exact Bool.false_ne_true)]
  have e2 : (aJ D e).fo = D.fo + 1 := by
    show (if (none : Option bN) = none then D.fo + 1 else D.fo) = _
    exact if_pos rfl
  refine ⟨e1, e2, ?_, fun n hn => ?_⟩
  · rw [e1, List.map_append]
    refine List.pairwise_append.mpr ⟨h.up, List.pairwise_singleton _ _, fun a ha b hb => ?_⟩
    rw [List.map_cons, List.map_nil, List.mem_singleton] at hb
    rw [hb]
    exact h.lo a ha
  · rw [e2]
    rw [e1, List.map_append] at hn
    rcases List.mem_append.mp hn with z | z
    · have := h.lo n z; omega
    · rw [List.map_cons, List.map_nil, List.mem_singleton] at z
      rw [z]
      show D.fo < D.fo + 1
      omega
theorem HU {D : Di} (h : vM D) {L : List (Int × bN)} {n : Int} {e : bN} (he : D.es = L ++ [(n, e)]) : dH D.es n = some e ∧ (dP D n).es = L ∧ (dP D n).fo = D.fo ∧ vM (dP D n) := by
  have hm : (n, e) ∈ D.es := by rw [he]; exact List.mem_append.mpr (.inr List.mem_cons_self)
  have g : dH D.es n = some e := qH h.up hm
  have nl : ∀ q ∈ L, q.1 ≠ n := fun q hq z => by
    have up := h.up
    rw [he, List.map_append] at up
    have := (List.pairwise_append.mp up).2.2 q.1 (List.mem_map_of_mem hq) n List.mem_cons_self
    omega
  have e1 : (dP D n).es = L := by
    show vI D.es n = L
    unfold vI
    rw [he, List.filter_append, List.filter_eq_self.mpr fun q hq => decide_eq_true (nl q hq), List.filter_cons_of_neg (by simp), List.filter_nil, List.append_nil]
  have e2 : (dP D n).fo = D.fo := by
    show (if dH D.es n = none then n + 1 else D.fo) = D.fo
    rw [g, if_neg (by exact fun z => by cases z)]
  refine ⟨g, e1, e2, ?_, fun m hm => ?_⟩
  · rw [e1]
    have up := h.up
    rw [he, List.map_append] at up
    exact (List.pairwise_append.mp up).1
  · rw [e1] at hm
    rw [e2]
    exact h.lo m (by rw [he, List.map_append]; exact List.mem_append.mpr (.inl hm))
theorem Fy {D : Di} (h : vM D) {L : List (Int × bN)} {n : Int} {e e' : bN} (he : D.es = (n, e) :: L) : dH D.es n = some e ∧ (bV D n e').es = (n, e') :: L ∧ (bV D n e').fo = D.fo ∧ vM (bV D n e') := by
  have g : dH D.es n = some e := qH h.up (by rw [he]; exact List.mem_cons_self)
  have up := h.up
  rw [he, List.map_cons] at up
  obtain ⟨u1, u2⟩ := List.pairwise_cons.mp up
  have e1 : (bV D n e').es = (n, e') :: L := by
    show tY D.es n e' = _
    unfold tY
    rw [g, if_pos (show (Option.some e).isSome = true from rfl), he, List.map_cons, if_pos rfl]
    congr 1
    rw [show L = L.map id from (List.map_id L).symm, List.map_map]
    refine List.map_congr_left fun q hq => ?_
    have := u1 q.1 (List.mem_map_of_mem hq)
    exact if_neg (by show ¬ q.1 = n; omega)
  have e2 : (bV D n e').fo = D.fo := by
    show (if dH D.es n = none then n + 1 else D.fo) = D.fo
    rw [g, if_neg (by exact fun z => by cases z)]
  refine ⟨g, e1, e2, ?_, fun m hm => ?_⟩
  · rw [e1, List.map_cons]; exact up
  · rw [e2]
    rw [e1, List.map_cons] at hm
    exact h.lo m (by rw [he, List.map_cons]; exact hm)
theorem EL {D : Di} (h : vM D) (e : bN) : (aJ D e).ch.getLast? = some (D.fo, none, some e) ∧ (dH (aJ D e).es D.fo).isSome = true ∧ (mW (aJ D e) D.fo none (some e)).es = D.es ∧ (mW (aJ D e) D.fo none (some e)).fo = D.fo := by
  obtain ⟨e1, e2, ok⟩ := iY h e
  have hn : ∀ q ∈ D.es, q.1 ≠ D.fo := fun q hq z => by have := h.lo _ (List.mem_map_of_mem hq); omega
  refine ⟨?_, ?_, ?_, by show (if (none : Option bN) = none then D.fo else (aJ D e).fo) = _; exact if_pos rfl⟩
  · show (D.ch ++ [(D.fo, none, some e)]).getLast? = _
    exact List.getLast?_concat
  · rw [qH ok.up (q := (D.fo, e)) (by rw [e1]; exact List.mem_append.mpr (.inr List.mem_cons_self))]
    rfl
  · show vI (aJ D e).es D.fo = D.es
    unfold vI
    rw [e1, List.filter_append, List.filter_eq_self.mpr fun q hq => decide_eq_true (hn q hq), List.filter_cons_of_neg (by simp), List.filter_nil, List.append_nil]
end DY
namespace DY
open PySem PySem.Spec PyProof.Rows L2 DL
def c9 : Key → Str
  | .inl i => toString i
  | .inr s => if s = "" then "-" else s
def Oq : Key → Prop
  | .inl i => i.natAbs.log2 < 1920
  | .inr s => Hz s ∧ s.length ≤ 100
theorem NB : Hz "" := by decide +kernel
theorem RD (i : Int) : lK false (.int i) (.str "") = some (.bl false) := by
  have e := EN (neg := false) (a := .int i) (b := .str "") (p := .int i) (q := .str "") rfl rfl (by unfold SeqAt.shaped; rfl) (by unfold SeqAt.shaped; decide +kernel)
  rw [e]
  rfl
theorem JU {k : Key} (h : Oq k) : (c9 k).length ≤ 1921 := by
  cases k with
  | inl i => exact int_text_len_1921 h
  | inr s =>
    show (if s = "" then ("-" : Str) else s).length ≤ _
    split
    · decide
    · have := h.2; omega
theorem Gp {k : Key} (h : Oq k) : (Qo ((lK false (kD k) (.str "")).bind bD) (some (Dt.str "-")) (qa [kD k])) = some (.str (c9 k)) := by
  cases k with
  | inl i =>
    show (Qo ((lK false (.int i) (.str "")).bind bD) _ _) = _
    rw [RD]
    show qa [.int i] = _
    exact if_pos h
  | inr s =>
    show (Qo ((lK false (.str s) (.str "")).bind bD) _ (qa [.str s])) = some (.str (if s = "" then "-" else s))
    rw [OH false h.1 NB]
    by_cases e : s = ""
    · subst e
      rfl
    · rw [if_neg e]
      have : (s == "") = false := by simpa using e
      rw [this]
      rfl
theorem JQ {row : List Key} (h : ∀ k ∈ row, Oq k) (hl : row.length ≤ 100) : jj [.tup (row.map kD)] = some (.lst ((row.map c9).map .str)) := by
  have hs : sD (.tup (row.map kD)) = some (row.map kD) := rfl
  unfold jj lN
  simp! [hs]
  rw [mL (by rw [List.length_map]; omega), gD kD (fun k => Dt.str (c9 k)) row fun k hk => ⟨[.sh (.tup (row.map kD)), .sh (kD k)], by simp!, by simp!, by
    have := Gp (h k hk)
    simp!
    exact this⟩]
  simp! [List.map_map]
  rfl
end DY
namespace DY
open PySem PySem.Spec PyProof.Rows L2 DL
theorem Ga (x : Str) : x ++ ("" : Str) = x := by
  cases x with
  | mk c => show Str.mk (c ++ #[]) = _; rw [Array.append_empty]
theorem Gb (x : Str) : Str.empty ++ x = x := by
  cases x with
  | mk c => show Str.mk (#[] ++ c) = _; rw [Array.empty_append]
theorem TV (z a b : Str) : ∀ {ws : List Str}, ws ≠ [] → Txt.join z (a :: b :: ws) = Txt.join z [a, b, Txt.join z ws]
  | [], h => absurd rfl h
  | w :: ws, _ => by
    rw [_root_.TL.join_eq, _root_.TL.join_eq, _root_.TL.join_eq]
    rfl
theorem Hy (x : Str) (ys : List Str) : Txt.join "" (x :: ys) = x ++ Txt.join "" ys := by
  rw [_root_.TL.join_eq, _root_.TL.join_eq]
  cases ys with
  | nil =>
    show x = x ++ Str.empty
    exact (Ga x).symm
  | cons y ys =>
    show x ++ ("" : Str) ++ Str.join "" (y :: ys) = _
    rw [Ga]
def eO (q : Int × bN) : Str := Txt.join " " ((toString q.1 : Str) :: (toString q.2.1 : Str) :: q.2.2.map c9)
structure J9 (q : Int × bN) : Prop where
  n : q.1.natAbs.log2 < 1920
  d : q.2.1.natAbs.log2 < 1920
  w : ∀ k ∈ q.2.2, Oq k
  l : q.2.2.length ≤ 6
  e : q.2.2 ≠ []
theorem Pa {ws : List Str} (h : ∀ w ∈ ws, w.length ≤ 1921) : (ws.map (·.length)).sum ≤ 1921 * ws.length := by
  induction ws with
  | nil => exact Nat.le_refl _
  | cons w ws ih =>
    rw [List.map_cons, List.sum_cons, List.length_cons]
    have := h w List.mem_cons_self
    have := ih fun x hx => h x (List.mem_cons_of_mem _ hx)
    omega
theorem N6 (l : List Str) : gr (l.map .str) = some l := by
  induction l with
  | nil => rfl
  | cons x l ih => rw [List.map_cons]; show (gr (l.map .str)).map (x :: ·) = _; rw [ih]; rfl
theorem mG {z : Str} {ws : List Str} (h : (ws.map (·.length)).sum + ws.length * z.length ≤ 1000000) : gu (some (.str z)) (some (.lst (ws.map .str))) = some (.str (Txt.join z ws)) := by
  show (gr (ws.map .str)).bind _ = _
  rw [N6, Option.bind_some]
  unfold DL.guard
  rw [if_pos (decide_eq_true h)]
end DY
namespace DY
open PySem PySem.Spec PyProof.Rows L2 DL
theorem int_str {i : Int} (h : i.natAbs.log2 < 1920) : qa [.int i] = some (.str (toString i)) := if_pos h
theorem kH {row : List Key} (h : ∀ k ∈ row, Oq k) : ((row.map c9).map (·.length)).sum ≤ 1921 * row.length := by
  have := Pa (ws := row.map c9) fun w hw => by
    obtain ⟨k, hk, rfl⟩ := List.mem_map.mp hw
    exact JU (h k hk)
  rwa [List.length_map] at this
theorem ko (z : Str) (ws : List Str) : (Txt.join z ws).length ≤ (ws.map (·.length)).sum + ws.length * z.length := by
  rw [_root_.TL.join_eq]
  induction ws with
  | nil => show (0 : Nat) ≤ _; exact Nat.zero_le _
  | cons w ws ih =>
    cases ws with
    | nil => show w.length ≤ _; rw [List.map_cons, List.sum_cons]; omega
    | cons v ws =>
      show (w ++ z ++ Str.join z (v :: ws)).length ≤ _
      have e : ∀ a b : Str, (a ++ b).length = a.length + b.length := fun a b => by
        show (a.cps ++ b.cps).size = _
        rw [Array.size_append]; rfl
      rw [e, e, List.map_cons, List.sum_cons, List.length_cons, Nat.add_mul]
      omega
theorem text_of {row : List Key} (h : ∀ k ∈ row, Oq k) (hl : row.length ≤ 6) : eZ [.tup (row.map kD)] = some (.str (Txt.join " " (row.map c9))) := by
  have hs : sD (.tup (row.map kD)) = some (row.map kD) := rfl
  have wl := kH h
  have j := mG (z := " ") (ws := row.map c9) (by
    rw [List.length_map]
    show _ + row.length * 1 ≤ _
    omega)
  rw [List.map_map] at j
  unfold eZ gW
  simp! [hs]
  rw [mL (by rw [List.length_map]; omega), gD kD (fun k => Dt.str (c9 k)) row fun k hk => ⟨[.sh (.tup (row.map kD)), .sh (kD k)], by simp!, by simp!, by
    have := Gp (h k hk)
    simp!
    exact this⟩]
  simp!
  have j : gu (some (.str " ")) (some (.lst (row.map fun k => Dt.str (c9 k)))) = some (.str (Txt.join " " (row.map c9))) := j
  rw [j]
  rfl
theorem D0 {q : Int × bN} (h : J9 q) : fP [.int q.1, .int q.2.1, .tup (q.2.2.map kD)] = some (.str (eO q ++ "\n")) := by
  have w := JQ h.w (by have := h.l; omega)
  have wl := kH h.w
  have l1 := int_text_len_1921 h.n
  have l2 := int_text_len_1921 h.d
  have hl := h.l
  have ad : cA (.lst [.str (toString q.1), .str (toString q.2.1)]) (.lst ((q.2.2.map c9).map .str)) = some (.lst (((toString q.1 : Str) :: (toString q.2.1 : Str) :: q.2.2.map c9).map .str)) := by
    rw [Qu (by rw [List.length_map, List.length_map]; show 2 + _ ≤ _; omega)]
    rfl
  have sm : (((toString q.1 : Str) :: (toString q.2.1 : Str) :: q.2.2.map c9).map (·.length)).sum + ((toString q.1 : Str) :: (toString q.2.1 : Str) :: q.2.2.map c9).length * (" " : Str).length ≤ 20000 := by
    rw [List.map_cons, List.map_cons, List.sum_cons, List.sum_cons, List.length_cons, List.length_cons, List.length_map]
    show _ + (q.2.2.length + 1 + 1) * 1 ≤ _
    omega
  have j := mG (z := " ") (ws := (toString q.1 : Str) :: (toString q.2.1 : Str) :: q.2.2.map c9) (by omega)
  have jl := ko " " ((toString q.1 : Str) :: (toString q.2.1 : Str) :: q.2.2.map c9)
  have a2 : cA (.str (eO q)) (.str "\n") = some (.str (eO q ++ "\n")) := o5 (by unfold eO; show _ + 1 ≤ _; omega)
  unfold fP iJ
  simp! [int_str h.n, int_str h.d, w, ad]
  have j : gu (some (.str " ")) (some (.lst (.str (toString q.1) :: .str (toString q.2.1) :: (q.2.2.map c9).map Dt.str))) = some (.str (eO q)) := j
  rw [j]
  exact congrArg (fun o : Option Dt => (o.map Rs.rt).bind gj) a2
end DY
namespace DY
open PySem PySem.Spec PyProof.Rows L2 DL
theorem Ea {q : Int × bN} (h : J9 q) : (eO q).length ≤ 15376 := by
  have wl := kH h.w
  have l1 := int_text_len_1921 h.n
  have l2 := int_text_len_1921 h.d
  have hl := h.l
  have jl := ko " " ((toString q.1 : Str) :: (toString q.2.1 : Str) :: q.2.2.map c9)
  rw [List.map_cons, List.map_cons, List.sum_cons, List.sum_cons, List.length_cons, List.length_cons, List.length_map] at jl
  have one : (" " : Str).length = 1 := rfl
  rw [one] at jl
  unfold eO
  omega
theorem HG {q : Int × bN} (h : J9 q) (a0 a1 a6 : Sl) {acc : List Str} (ha : acc.length ≤ 1000) : eE [a0, a1, .ow (acc.map .str), .sh (.int q.1), .sh (.int q.2.1), .sh (.tup (q.2.2.map kD)), a6] = some (.nx [a0, a1, .ow ((acc ++ [eO q]).map .str), .sh (.int q.1), .sh (.int q.2.1), .sh (.tup (q.2.2.map kD)), a6]) := by
  have t := text_of h.w h.l
  have wl := kH h.w
  have hl := h.l
  have jl := ko " " (q.2.2.map c9)
  rw [List.length_map] at jl
  have jl : (Txt.join " " (q.2.2.map c9)).length ≤ ((q.2.2.map c9).map (·.length)).sum + q.2.2.length * 1 := jl
  have l1 := int_text_len_1921 h.n
  have l2 := int_text_len_1921 h.d
  have j := mG (z := " ") (ws := [(toString q.1 : Str), (toString q.2.1 : Str), Txt.join " " (q.2.2.map c9)]) (by
    rw [List.map_cons, List.map_cons, List.map_cons, List.map_nil, List.sum_cons, List.sum_cons, List.sum_cons, List.sum_nil]
    show _ + 3 * 1 ≤ _
    omega)
  have e : Txt.join " " [(toString q.1 : Str), (toString q.2.1 : Str), Txt.join " " (q.2.2.map c9)] = eO q := (TV " " _ _ (fun z => h.e (List.map_eq_nil_iff.mp z))).symm
  rw [e] at j
  have j : gu (some (.str " ")) (some (.lst [.str (toString q.1), .str (toString q.2.1), .str (Txt.join " " (q.2.2.map c9))])) = some (.str (eO q)) := j
  unfold eE
  simp! [int_str h.n, int_str h.d, t]
  rw [j, fR (ds := acc.map .str) rfl (by rw [List.length_map]; omega)]
  rw [List.map_append]
  rfl
theorem wM (a0 a1 a6 : Sl) : ∀ (T : List (Int × bN)) (acc : List Str) (a3 a4 a5 : Sl), (∀ q ∈ T, J9 q) → acc.length + T.length ≤ 1000 →
    ∃ b3 b4 b5, bz (jM 3 (bw (fName 3) (bw (fName 4) (bw (fName 5) kM)))) eE (T.map aY) [a0, a1, .ow (acc.map .str), a3, a4, a5, a6] = some (.nx [a0, a1, .ow ((acc ++ T.map eO).map .str), b3, b4, b5, a6])
  | [], acc, a3, a4, a5, _, _ => ⟨a3, a4, a5, by rw [List.map_nil, List.map_nil, List.append_nil]; rfl⟩
  | q :: T, acc, a3, a4, a5, h, hl => by
    rw [List.length_cons] at hl
    obtain ⟨b3, b4, b5, ih⟩ := wM a0 a1 a6 T (acc ++ [eO q]) (.sh (.int q.1)) (.sh (.int q.2.1)) (.sh (.tup (q.2.2.map kD))) (fun p hp => h p (List.mem_cons_of_mem _ hp)) (by rw [List.length_append, List.length_singleton]; omega)
    refine ⟨b3, b4, b5, ?_⟩
    rw [List.map_cons, bz]
    unfold aY
    simp!
    rw [HG (h q List.mem_cons_self) a0 a1 a6 (by omega)]
    rw [List.append_assoc] at ih
    exact ih
end DY
namespace DY
open PySem PySem.Spec PyProof.Rows L2 DL
def pW (T : List (Int × bN)) (fo : Int) : Str := (("next " : Str) ++ (toString fo : Str) ++ ("\n" : Str)) ++ Txt.join "" (T.map fun q => eO q ++ ("\n" : Str))
theorem gx (a b : Str) : (a ++ b).length = a.length + b.length := by
  show (a.cps ++ b.cps).size = _
  rw [Array.size_append]; rfl
theorem wX {T : List (Int × bN)} (h : ∀ q ∈ T, J9 q) : ((T.map fun q => eO q ++ ("\n" : Str)).map (·.length)).sum ≤ 15377 * T.length := by
  induction T with
  | nil => exact Nat.le_refl _
  | cons q T ih =>
    rw [List.map_cons, List.map_cons, List.sum_cons, List.length_cons, gx]
    have := Ea (h q List.mem_cons_self)
    have := ih fun p hp => h p (List.mem_cons_of_mem _ hp)
    have one : ("\n" : Str).length = 1 := rfl
    omega
theorem MX {T : List (Int × bN)} (h : ∀ q ∈ T, J9 q) (hl : T.length ≤ 60) {fo : Int} (hf : fo.natAbs.log2 < 1920) : cF [.lst (T.map aY), .int fo] = some (.str (pW T fo)) := by
  obtain ⟨b3, b4, b5, lp⟩ := wM (.sh (.lst (T.map aY))) (.sh (.int fo)) .no T [("next " : Str) ++ (toString fo : Str)] .no .no .no h (by rw [List.length_singleton]; omega)
  have lf := int_text_len_1921 hf
  have TH : ("next " : Str).length = 5 := rfl
  have one : ("\n" : Str).length = 1 := rfl
  have a1 : cA (.str "next ") (.str (toString fo)) = some (.str (("next " : Str) ++ (toString fo : Str))) := o5 (by omega)
  have hs : sD (.lst (T.map aY)) = some (T.map aY) := rfl
  have ll := wX h
  have j := mG (z := "") (ws := (("next " : Str) ++ (toString fo : Str) ++ ("\n" : Str)) :: T.map fun q => eO q ++ ("\n" : Str)) (by
    rw [List.map_cons, List.sum_cons, gx, gx]
    show _ + _ * 0 ≤ _
    omega)
  rw [Hy] at j
  have hc : ∀ (a b c : Sl), kT (some ((([("next " : Str) ++ (toString fo : Str)] ++ T.map eO)).map Dt.str)) (fD (fName 6) (fun e => (some true)) (fun e => (o2 cA (ao e 6) (some (Dt.str "\n")))) [.sh (.lst (T.map aY)), .sh (.int fo), .sh (.lst (([("next " : Str) ++ (toString fo : Str)] ++ T.map eO).map .str)), a, b, c, .no]) = some ((([("next " : Str) ++ (toString fo : Str)] ++ T.map eO)).map fun w => Dt.str (w ++ ("\n" : Str))) := fun a b c => by
    rw [mL (by rw [List.length_map, List.length_append, List.length_map]; show 1 + _ ≤ _; omega)]
    refine gD Dt.str (fun w => Dt.str (w ++ ("\n" : Str))) _ fun w hw => ⟨[.sh (.lst (T.map aY)), .sh (.int fo), .sh (.lst (([("next " : Str) ++ (toString fo : Str)] ++ T.map eO).map .str)), a, b, c, .sh (.str w)], by simp!, by simp!, ?_⟩
    have lw : w.length ≤ 16000 := by
      rcases List.mem_append.mp hw with z | z
      · rw [List.mem_singleton.mp z, gx]; omega
      · obtain ⟨q, hq, rfl⟩ := List.mem_map.mp z
        have := Ea (h q hq)
        omega
    have ad : cA (.str w) (.str "\n") = some (.str (w ++ ("\n" : Str))) := o5 (by omega)
    simp! [ad]
  unfold cF kh
  simp! [int_str hf, a1, hs]
  have lp : bz (jM 3 (bw (fName 3) (bw (fName 4) (bw (fName 5) kM)))) eE (T.map aY) [.sh (.lst (T.map aY)), .sh (.int fo), .ow [.str (("next " : Str) ++ (toString fo : Str))], .no, .no, .no, .no] = _ := lp
  rw [lp]
  have hc := hc b3 b4 b5
  have e : (([("next " : Str) ++ (toString fo : Str)] ++ T.map eO).map fun w => Dt.str (w ++ ("\n" : Str))) = ((("next " : Str) ++ (toString fo : Str) ++ ("\n" : Str)) :: T.map fun q => eO q ++ ("\n" : Str)).map Dt.str := by
    rw [List.map_append, List.map_map, List.map_cons (f := Dt.str), List.map_map]
    rfl
  rw [e] at hc
  simp! at hc
  simp! [hc]
  have j : gu (some (.str "")) (some (.lst (.str (("next " : Str) ++ (toString fo : Str) ++ ("\n" : Str)) :: (T.map fun q => eO q ++ ("\n" : Str)).map Dt.str))) = some (.str (pW T fo)) := j
  rw [j]
  rfl
theorem sV {d : Dt} {y acc : Str} {r : List (Option Dt)} (h : Mj d = some y) (hl : (acc ++ y).length ≤ 100000) : Nd (some d :: r) acc = Nd r (acc ++ y) := by
  show (Mj d).bind (fun y => if (acc ++ y).length ≤ 100000 then Nd r (acc ++ y) else none) = _
  rw [h, Option.bind_some, if_pos hl]
theorem Fg {D : Di} (ok : vM D) (h : ∀ q ∈ D.es, J9 q) (hl : D.es.length ≤ 60) (hf : D.fo.natAbs.log2 < 1920) : dZ [.dia D] = some (.str (pW D.es D.fo)) := by
  have ro := OI ok (by omega)
  have co : P9 (.dia D) = some (.int D.fo) := rfl
  have ll := wX h
  have lf := int_text_len_1921 hf
  have hs : sD (.lst (D.es.map aY)) = some (D.es.map aY) := rfl
  unfold dZ nA
  simp! [ro, hs]
  rw [mL (by rw [List.length_map]; omega), gD aY (fun q => Dt.str (eO q ++ ("\n" : Str))) D.es fun q hq => ⟨[.sh (.dia D), .no, .sh (.int q.1), .sh (.int q.2.1), .sh (.tup (q.2.2.map kD))], by unfold aY; simp!, by simp!, by
    have := D0 (h q hq)
    simp! [this]⟩]
  simp! [co]
  have TH : ("next " : Str).length = 5 := rfl
  have one : ("\n" : Str).length = 1 := rfl
  have fj : Nd [some (.str "next "), some (.int D.fo), some (.str "\n")] Str.empty = some (("next " : Str) ++ (toString D.fo : Str) ++ ("\n" : Str)) := by
    rw [sV (y := "next ") rfl (by rw [Gb, TH]; decide), Gb, sV (d := .int D.fo) (y := (toString D.fo : Str)) (show Mj (.int D.fo) = some (toString D.fo : Str) from if_pos hf) (by rw [gx]; omega), sV (y := "\n") rfl (by rw [gx, gx]; omega)]
    rfl
  have j := mG (z := "") (ws := D.es.map fun q => eO q ++ ("\n" : Str)) (by show _ + _ * 0 ≤ _; omega)
  rw [List.map_map] at j
  have j : gu (some (.str "")) (some (.lst (D.es.map fun q => Dt.str (eO q ++ ("\n" : Str))))) = some (.str (Txt.join "" (D.es.map fun q => eO q ++ ("\n" : Str)))) := j
  have jl := ko "" (D.es.map fun q => eO q ++ ("\n" : Str))
  have jl : (Txt.join "" (D.es.map fun q => eO q ++ ("\n" : Str))).length ≤ ((D.es.map fun q => eO q ++ ("\n" : Str)).map (·.length)).sum + (D.es.map fun q => eO q ++ ("\n" : Str)).length * 0 := jl
  have ad : cA (.str (("next " : Str) ++ (toString D.fo : Str) ++ ("\n" : Str))) (.str (Txt.join "" (D.es.map fun q => eO q ++ ("\n" : Str)))) = some (.str (pW D.es D.fo)) := o5 (by rw [gx, gx]; omega)
  rw [fj, j]
  simp! [ad]
end DY
namespace DY
open PySem PySem.Spec PyProof.Rows L2 DL
theorem lZ : ∀ row : List Key, jF (row.map kD) = some row
  | [] => rfl
  | .inl i :: r => by show (jF (r.map kD)).map (Sum.inl i :: ·) = _; rw [lZ r]; rfl
  | .inr s :: r => by show (jF (r.map kD)).map (Sum.inr s :: ·) = _; rw [lZ r]; rfl
open Classical in
theorem Lb {env : En} {i : Nat} {D : Di} {day : Int} {row : List Key} (h1 : env[i]? = some (.od (.dia D))) (h2 : aD [.int day, .tup (row.map kD)] = some .non) (h3 : D.es.length < 1000) (h4 : D.ch.length < 1000) : DL.Tq env i (some [.int day, .tup (row.map kD)]) = some (aJ D (day, row), D.fo) := by
  unfold DL.Tq
  rw [h1]
  show ((jF (row.map kD)).bind fun row' => if aD [.int day, .tup (row.map kD)] = some .non ∧ D.es.length < 1000 ∧ D.ch.length < 1000 then some (aJ D (day, row'), D.fo) else none) = _
  rw [lZ, Option.bind_some, if_pos ⟨h2, h3, h4⟩]
open Classical in
theorem xK {env : En} {i : Nat} {D : Di} {n day : Int} {row : List Key} (h1 : env[i]? = some (.od (.dia D))) (h0 : (dH D.es n).isSome = true) (h2 : aD [.int day, .tup (row.map kD)] = some .non) (h3 : D.es.length < 1000) (h4 : D.ch.length < 1000) : fG env i (some [.int n, .int day, .tup (row.map kD)]) = some (.nx (env.set i (.od (.dia (bV D n (day, row)))))) := by
  unfold fG
  rw [h1]
  show ((jF (row.map kD)).bind fun row' => if (dH D.es n).isSome = true ∧ aD [.int day, .tup (row.map kD)] = some .non ∧ D.es.length < 1000 ∧ D.ch.length < 1000 then some (Rs.nx (env.set i (.od (.dia (bV D n (day, row')))))) else none) = _
  rw [lZ, Option.bind_some, if_pos ⟨h0, h2, h3, h4⟩]
theorem qR {env : En} {i j : Nat} {D : Di} {L : List (Int × bN)} {q : Int × bN} (h1 : env[i]? = some (.od (.dia D))) (hij : j ≠ i) (h2 : env[j]? = some (.ow ((L ++ [q]).map aY))) (h0 : (dH D.es q.1).isSome = true) (h3 : D.es.length < 1000) (h4 : D.ch.length < 1000) :
    eT env i j = some (.nx ((env.set j (.ow (L.map aY))).set i (.od (.dia (dP D q.1))))) := by
  have e1 : xw env j = some ((L ++ [q]).map aY) := by unfold xw; rw [h2]
  unfold eT
  rw [e1, Option.bind_some, List.map_append, List.map_cons, List.map_nil, List.getLast?_concat, List.dropLast_concat]
  show mF (env.set j (.ow (L.map aY))) i (some (.int q.1)) = _
  unfold mF
  rw [List.getElem?_set_ne hij, h1]
  exact if_pos ⟨h0, h3, h4⟩
theorem HR {env : En} {i : Nat} {D : Di} {n : Int} {x y : Option bN} (h1 : env[i]? = some (.od (.dia D))) (hl : D.ch.getLast? = some (n, x, y)) (h0 : x = none → (dH D.es n).isSome = true) (h3 : D.es.length < 1000) (h4 : D.ba.length < 1000) : nC env i = some (.nx (env.set i (.od (.dia (mW D n x y))))) := by
  unfold nC
  rw [h1]
  show (match D.ch.getLast? with | some (n, x, y) => _ | none => _) = _
  rw [hl]
  exact if_pos ⟨h0, h3, h4⟩
theorem Ez {env : En} {i : Nat} {D : Di} {day : Int} {row : List Key} (h1 : env[i]? = some (.od (.dia D))) (h2 : aD [.int day, .tup (row.map kD)] = some .non) (h3 : D.es.length < 1000) (h4 : D.ch.length < 1000) : kG env i (some [.int day, .tup (row.map kD)]) = some (.nx (env.set i (.od (.dia (aJ D (day, row)))))) := by
  unfold kG
  rw [Lb h1 h2 h3 h4]
  rfl
theorem Ay {env : En} {i : Nat} {D : Di} {day : Int} {row : List Key} {f : En → Option Dt} {bd : En → Option Rs} (h1 : env[i]? = some (.od (.dia D))) (h2 : aD [.int day, .tup (row.map kD)] = some .non) (h3 : D.es.length < 1000) (h4 : D.ch.length < 1000)
    (hf : f (env.set i (.od (.dia (aJ D (day, row))))) = some (.int D.fo)) : gE env i (some [.int day, .tup (row.map kD)]) f aO bd = some (.nx (env.set i (.od (.dia (aJ D (day, row)))))) := by
  unfold gE
  rw [Lb h1 h2 h3 h4, Option.bind_some, hf, Option.bind_some, AG (.int _)]
  rfl
end DY
namespace DY
open PySem PySem.Spec PyProof.Rows L2 DL
def Vf (row : List Key) : Prop := ∀ dy : Int, 1 ≤ dy → dy ≤ 9999 → aD [.int dy, .tup (row.map kD)] = some .non
structure gi (m k : Nat) (D : Di) : Prop where
  ok : vM D
  r : ∀ q ∈ D.es, J9 q
  l : D.es.length ≤ m
  c : ∀ q ∈ D.es, Vf q.2.2
  f : 1 ≤ D.fo ∧ D.fo ≤ m + 1
  s : D.ch.length ≤ k
structure Bb (e : bN) : Prop where
  d : 1 ≤ e.1 ∧ e.1 ≤ 9999
  w : ∀ k ∈ e.2, Oq k
  l : e.2.length ≤ 6
  x : e.2 ≠ []
  c : Vf e.2
theorem kq {i : Int} (h1 : 0 ≤ i) (h2 : i ≤ 10000) : i.natAbs.log2 < 1920 := by
  have : i.natAbs.log2 ≤ 14 := by
    by_cases z : i.natAbs = 0
    · rw [z]; decide
    · have := (Nat.log2_lt z (k := 14)).mpr (by show i.natAbs < 16384; omega)
      omega
  omega
theorem gi.enter {m k : Nat} {D : Di} (h : gi m k D) (hm : m ≤ 50) {e : bN} (he : Bb e) : vM (aJ D e) ∧ (∀ q ∈ (aJ D e).es, J9 q ∧ Vf q.2.2) ∧ (aJ D e).es.length ≤ m + 1 ∧ (aJ D e).ch.length ≤ k + 1 := by
  obtain ⟨e1, e2, ok⟩ := iY h.ok e
  refine ⟨ok, fun q hq => ?_, by rw [e1, List.length_append]; have := h.l; show _ + 1 ≤ _; omega, by show (D.ch ++ [_]).length ≤ _; rw [List.length_append]; have := h.s; show _ + 1 ≤ _; omega⟩
  rw [e1] at hq
  rcases List.mem_append.mp hq with z | z
  · exact ⟨h.r q z, h.c q z⟩
  · rw [List.mem_singleton.mp z]
    exact ⟨⟨kq (by have := h.f; show 0 ≤ D.fo; omega) (by have := h.f; show D.fo ≤ 10000; omega), kq (by have := he.d; show 0 ≤ e.1; omega) (by have := he.d; show e.1 ≤ 10000; omega), he.w, he.l, he.x⟩, he.c⟩
theorem Pf {m n : Nat} {D : Di} (h : gi m n D) (hm : m ≤ 50) (hn : n ≤ 900) {day : Int} {row : List Key} (hc : aD [.int day, .tup (row.map kD)] = some .non) (a0 a1 a2 a6 a9 : Sl) (k : En → Option Rs) :
    (aN (gE [a0, a1, a2, .od (.dia D), .ow (D.es.map aY), .sh (.int D.fo), a6, .sh (.int day), .sh (.tup (row.map kD)), a9] 3 (some [.int day, .tup (row.map kD)]) (fun e => (ao e 5)) aO (fun e => ((some (Dt.bl false)).map Rs.rt))) fun e =>
    (aN (jO e 4 ((ai (ao e 5) (ai (ao e 7) (ai (ao e 8) (some [])))).bind fu)) fun e =>
    (aN (eU (o2 cA (ao e 5) (some (Dt.int 1))) (fName 5) e) k))) = k [a0, a1, a2, .od (.dia (aJ D (day, row))), .ow ((aJ D (day, row)).es.map aY), .sh (.int (aJ D (day, row)).fo), a6, .sh (.int day), .sh (.tup (row.map kD)), a9] := by
  obtain ⟨e1, e2, ok⟩ := iY h.ok (day, row)
  have l1 := h.l
  have l2 := h.s
  rw [Ay (D := D) rfl hc (by omega) (by omega) rfl]
  simp!
  rw [fR (ds := D.es.map aY) rfl (by rw [List.length_map]; omega)]
  simp!
  rw [e1, e2, List.map_append]
  rfl
theorem SW {m k : Nat} {D : Di} (h : gi m k D) (hm : m ≤ 50) (hk : k ≤ 900) {e : bN} (he : Bb e) (a0 a1 a2 a5 a6 a7 a8 a9 : Sl) :
    eT [a0, a1, a2, .od (.dia (aJ D e)), .ow ((aJ D e).es.map aY), a5, a6, a7, a8, a9] 3 4 = some (.nx [a0, a1, a2, .od (.dia (dP (aJ D e) D.fo)), .ow ((dP (aJ D e) D.fo).es.map aY), a5, a6, a7, a8, a9]) ∧ gi (m + 1) (k + 2) (dP (aJ D e) D.fo) ∧ (dP (aJ D e) D.fo).fo = (aJ D e).fo := by
  obtain ⟨e1, e2, ok⟩ := iY h.ok e
  obtain ⟨_, hr, l1, l2⟩ := h.enter hm he
  obtain ⟨g, s1, s2, sok⟩ := HU ok e1
  have hl := h.l
  have hs := h.s
  have hf := h.f
  refine ⟨?_, ⟨sok, ?_, by rw [s1]; omega, ?_, by rw [s2, e2]; omega, ?_⟩, s2⟩
  · rw [qR (D := aJ D e) (L := D.es) (q := (D.fo, e)) rfl (by decide) (by rw [e1]; rfl) (by show (dH (aJ D e).es D.fo).isSome = true; rw [g]; rfl) (by omega) (by omega), s1]
    rfl
  · rw [s1]; exact h.r
  · rw [s1]; exact h.c
  · show ((aJ D e).ch ++ [_]).length ≤ _
    rw [List.length_append]
    show _ + 1 ≤ _
    omega
theorem Ex {m k : Nat} {D : Di} (h : gi m k D) (hm : m ≤ 50) {e : bN} (he : Bb e) : gi (m + 1) (k + 1) (aJ D e) := by
  obtain ⟨e1, e2, ok⟩ := iY h.ok e
  obtain ⟨_, hr, l1, l2⟩ := h.enter hm he
  have hf := h.f
  exact ⟨ok, fun q hq => (hr q hq).1, l1, fun q hq => (hr q hq).2, by rw [e2]; omega, by omega⟩
theorem uv {m k : Nat} {D : Di} (h : gi m k D) (hm : m ≤ 51) (hk : k ≤ 900) {n : Int} {e : bN} {L : List (Int × bN)} (he : D.es = (n, e) :: L) : (dH D.es n).isSome = true ∧ aD [.int 9999, .tup (e.2.map kD)] = some .non ∧ (bV D n (9999, e.2)).es = (n, (9999, e.2)) :: L ∧ (bV D n (9999, e.2)).fo = D.fo ∧ gi m (k + 1) (bV D n (9999, e.2)) := by
  obtain ⟨g, c1, c2, cok⟩ := Fy (e' := (9999, e.2)) h.ok he
  have hq : (n, e) ∈ D.es := by rw [he]; exact List.mem_cons_self
  have r0 := h.r _ hq
  have hl := h.l
  rw [he, List.length_cons] at hl
  refine ⟨by rw [g]; rfl, h.c _ hq 9999 (by decide) (by decide), c1, c2, cok, fun q hq' => ?_, by rw [c1, List.length_cons]; exact hl, fun q hq' => ?_, by rw [c2]; exact h.f, ?_⟩
  · rw [c1] at hq'
    rcases List.mem_cons.mp hq' with z | z
    · rw [z]
      exact ⟨r0.n, kq (show (0 : Int) ≤ 9999 by decide) (show (9999 : Int) ≤ 10000 by decide), r0.w, r0.l, r0.e⟩
    · exact h.r q (by rw [he]; exact List.mem_cons_of_mem _ z)
  · rw [c1] at hq'
    rcases List.mem_cons.mp hq' with z | z
    · rw [z]; exact h.c (n, e) hq
    · exact h.c q (by rw [he]; exact List.mem_cons_of_mem _ z)
  · show (D.ch ++ [_]).length ≤ _
    rw [List.length_append]
    have := h.s
    show _ + 1 ≤ _
    omega
end DY
namespace DY
open PySem PySem.Spec PyProof.Rows L2 DL
theorem RL {m k : Nat} {D : Di} (h : gi m k D) (hm : m ≤ 51) (hk : k ≤ 900) {n : Int} {r : bN} {L : List (Int × bN)} (he : D.es = (n, r) :: L) (a0 a1 a2 a5 a6 a7 a8 a9 : Sl) :
    (aN (eU ((xw [a0, a1, a2, .od (.dia D), .ow (D.es.map aY), a5, a6, a7, a8, a9] 4).bind fun ds => ((some (Dt.int 0))).bind fun x => cY (.lst ds) x) (jM 3 (bw (fName 6) (bw (fName 7) (bw (fName 8) kM)))) [a0, a1, a2, .od (.dia D), .ow (D.es.map aY), a5, a6, a7, a8, a9]) fun e =>
    (aN (Fz e 4 (some (Dt.int 0)) ((ai (ao e 6) (ai (some (Dt.int 9999)) (ai (ao e 8) (some [])))).bind fu)) fun e =>
    (fG e 3 (ai (ao e 6) (ai (some (Dt.int 9999)) (ai (ao e 8) (some []))))))) = some (.nx [a0, a1, a2, .od (.dia (bV D n (9999, r.2))), .ow ((bV D n (9999, r.2)).es.map aY), a5, .sh (.int n), .sh (.int r.1), .sh (.tup (r.2.map kD)), a9]) := by
  obtain ⟨g, hc, c1, c2, _⟩ := uv h hm hk he
  have hl := h.l
  have hs := h.s
  have i0 : cY (.lst (D.es.map aY)) (.int 0) = some (.tup [.int n, .int r.1, .tup (r.2.map kD)]) := by
    rw [he, List.map_cons]
    exact jG _ 0
  have ix : ixN (D.es.map aY).length (0 : Int) = some 0 := by
    have : (D.es.map aY).length = L.length + 1 := by rw [he, List.length_map, List.length_cons]
    unfold ixN
    rw [if_pos (by omega), if_pos (by omega)]
    rfl
  have st : Fz [a0, a1, a2, .od (.dia D), .ow (D.es.map aY), a5, .sh (.int n), .sh (.int r.1), .sh (.tup (r.2.map kD)), a9] 4 (some (.int 0)) (some (.tup [.int n, .int 9999, .tup (r.2.map kD)])) = some (.nx [a0, a1, a2, .od (.dia D), .ow ((bV D n (9999, r.2)).es.map aY), a5, .sh (.int n), .sh (.int r.1), .sh (.tup (r.2.map kD)), a9]) := by
    have o : xw [a0, a1, a2, .od (.dia D), .ow (D.es.map aY), a5, .sh (.int n), .sh (.int r.1), .sh (.tup (r.2.map kD)), a9] 4 = some (D.es.map aY) := rfl
    unfold Fz
    rw [o]
    show (ixN (D.es.map aY).length (0 : Int)).map _ = _
    rw [ix, c1, he]
    rfl
  simp! [i0]
  rw [st]
  simp!
  rw [xK (D := D) rfl g hc (by omega) (by omega)]
  rfl
end DY
namespace DY
open PySem PySem.Spec PyProof.Rows L2 DL
theorem ki {m k : Nat} {D : Di} (h : gi m k D) (hm : m ≤ 51) : dZ [.dia D] = some (.str (pW D.es D.fo)) ∧ cF [.lst (D.es.map aY), .int D.fo] = some (.str (pW D.es D.fo)) ∧ aO [.str (pW D.es D.fo), .str (pW D.es D.fo)] = some (.bl true) := by
  have hl := h.l
  have hf : D.fo.natAbs.log2 < 1920 := kq (by have := h.f; omega) (by have := h.f; omega)
  exact ⟨Fg h.ok h.r (by omega) hf, MX h.r (by omega) hf, AG (.str _)⟩
theorem IQ {m k : Nat} {D : Di} (h : gi m k D) (hm : m ≤ 51) (a0 a1 a2 a6 a7 a8 a9 : Sl) : qE [a0, a1, a2, .od (.dia D), .ow (D.es.map aY), .sh (.int D.fo), a6, a7, a8, a9] = some (.nx [a0, a1, a2, .od (.dia D), .ow (D.es.map aY), .sh (.int D.fo), a6, a7, a8, a9]) := by
  obtain ⟨w, p, s⟩ := ki h hm
  unfold qE
  simp! [MZ, w, p, s, Bool.not_true]
end DY
namespace DY
open PySem PySem.Spec PyProof.Rows L2 DL
def Lay (n : Nat) (d : Dt) : Prop := ∃ p, qu d = some p ∧ p.canLay0 = true ∧ p.depth ≤ n
theorem zI (i : Int) : Lay 0 (.int i) := ⟨.int i, rfl, rfl, Nat.le_refl _⟩
theorem N1 {s : Str} (h : Hz s) : Lay 0 (.str s) := ⟨.str s, rfl, h, Nat.le_refl _⟩
theorem Sa {n : Nat} : ∀ {ds : List Dt}, (∀ d ∈ ds, Lay n d) → ∃ ps, kN ds = some ps ∧ PyData.canLayAll0 ps = true ∧ PyData.depthAll ps ≤ n
  | [], _ => ⟨[], rfl, rfl, Nat.zero_le _⟩
  | d :: ds, h => by
    obtain ⟨p, h1, h2, h3⟩ := h d List.mem_cons_self
    obtain ⟨ps, g1, g2, g3⟩ := Sa fun x hx => h x (List.mem_cons_of_mem _ hx)
    refine ⟨p :: ps, by rw [kN, h1, g1], by rw [PyData.canLayAll0, h2, g2]; rfl, ?_⟩
    rw [PyData.depthAll]
    omega
theorem Gx {n : Nat} {ds : List Dt} (h : ∀ d ∈ ds, Lay n d) : Lay (n + 1) (.tup ds) := by
  obtain ⟨ps, g1, g2, g3⟩ := Sa h
  refine ⟨.tuple ps, by rw [qu, g1]; rfl, by rw [PyData.canLay0, g2], ?_⟩
  rw [PyData.depth]
  omega
theorem LR {n m : Nat} {d : Dt} (h : Lay n d) (hn : n ≤ m) : Lay m d := by
  obtain ⟨p, h1, h2, h3⟩ := h
  exact ⟨p, h1, h2, Nat.le_trans h3 hn⟩
theorem NG {q : Int × bN} (h : J9 q) : Lay 2 (aY q) := Gx fun d hd => by
  simp only [List.mem_cons, List.not_mem_nil, or_false] at hd
  rcases hd with rfl | rfl | rfl
  · exact LR (zI _) (by decide)
  · exact LR (zI _) (by decide)
  · refine Gx fun e he => ?_
    obtain ⟨k, hk, rfl⟩ := List.mem_map.mp he
    have w := h.w k hk
    cases k with
    | inl i => exact zI i
    | inr s => exact N1 w.1
theorem N3 {T : List (Int × bN)} (h : ∀ q ∈ T, J9 q) : lK true (.lst (T.map aY)) (.lst []) = some (.bl (!T.isEmpty)) := by
  obtain ⟨ps, g1, g2, g3⟩ := Sa (n := 2) (ds := T.map aY) fun d hd => by
    obtain ⟨q, hq, rfl⟩ := List.mem_map.mp hd
    exact NG (h q hq)
  have sh : SeqAt.shaped (.list ps) = true := by
    unfold SeqAt.shaped
    rw [PyData.canLay0, g2, Bool.true_and, PyData.depth]
    refine decide_eq_true ?_
    omega
  have V2 : SeqAt.shaped (.list []) = true := by unfold SeqAt.shaped; rfl
  rw [EN (neg := true) (p := .list ps) (q := .list []) (by rw [qu, g1]; rfl) (by rw [qu, kN]; rfl) sh V2]
  cases T with
  | nil =>
    have : ps = [] := by rw [List.map_nil, kN] at g1; cases g1; rfl
    subst this
    rfl
  | cons q T =>
    rw [List.map_cons, kN] at g1
    split at g1
    · cases g1; rfl
    · cases g1
end DY
namespace DY
open PySem PySem.Spec PyProof.Rows L2 DL
noncomputable def Ey (e : En) : Option Rs :=
    (aN (CA (j7 ((o2 (lK false) (o2 dD (ao e 6) (some (Dt.int 7))) (some (Dt.int 3))).bind bD) (ND (frz e 4) fun e => ((o2 (lK true) (ao e 4) (((some []).bind vm).map Dt.lst)).bind bD))) (aN (eU ((xw e 4).bind fun ds => ((some (Dt.int 0))).bind fun x => cY (.lst ds) x) (jM 3 (bw (fName 6) (bw (fName 7) (bw (fName 8) kM)))) e) fun e =>
    (aN (Fz e 4 (some (Dt.int 0)) ((ai (ao e 6) (ai (some (Dt.int 9999)) (ai (ao e 8) (some [])))).bind fu)) fun e =>
    (fG e 3 (ai (ao e 6) (ai (some (Dt.int 9999)) (ai (ao e 8) (some []))))))) (some (Rs.nx e))) fun e =>
    (CA (MZ e fun e => (j7 ((o2 (lK false) (o2 dD (o2 cY (ao e 1) (some (Dt.int 1))) (some (Dt.int 3))) (some (Dt.int 0))).bind bD) (ND (frz e 4) fun e => ((ND (frz e 4) fun e => (((ai ((ai (ao e 3) (some [])).bind (ar 1 dZ)) (ai ((ai (ao e 4) (ai (ao e 5) (some []))).bind (ar 2 cF)) (some []))).bind (ar 2 aO)).bind bD)).map (!·))))) ((some (Dt.bl false)).map Rs.rt) (some (Rs.nx e))))
noncomputable def Lh (e : En) : Option Rs :=
    (aN (gE e 3 (ai (ao e 7) (ai (ao e 8) (some []))) (fun e => (ao e 5)) aO (fun e => ((some (Dt.bl false)).map Rs.rt))) fun e =>
    (aN (jO e 4 ((ai (ao e 5) (ai (ao e 7) (ai (ao e 8) (some [])))).bind fu)) fun e =>
    (aN (eU (o2 cA (ao e 5) (some (Dt.int 1))) (fName 5) e) fun e =>
    (aN (CA ((o2 (lK false) (o2 dD (ao e 6) (some (Dt.int 5))) (some (Dt.int 4))).bind bD) (eT e 3 4) (some (Rs.nx e))) fun e =>
    Ey e))))
theorem IV (e : En) : mZ e = Lh e := (rfl)
theorem JZ {m c : Nat} {D : Di} (h : gi m c D) (hm : m ≤ 51) (hc : c ≤ 900) {d : List Int} {x : Int} (ix : cY (.lst (d.map .int)) (.int 1) = some (.int x)) (kk : Int) (a0 a2 a7 a8 a9 : Sl) :
    ∃ D' b6 b7 b8, gi m (c + 1) D' ∧ Ey [a0, .sh (.lst (d.map .int)), a2, .od (.dia D), .ow (D.es.map aY), .sh (.int D.fo), .sh (.int kk), a7, a8, a9] = some (.nx [a0, .sh (.lst (d.map .int)), a2, .od (.dia D'), .ow (D'.es.map aY), .sh (.int D'.fo), b6, b7, b8, a9]) := by
  have m7 := aL (x := kk) (show (0 : Int) < 7 by decide)
  have m3 := aL (x := x) (show (0 : Int) < 3 by decide)
  have ne := N3 h.r
  unfold Ey
  simp! [m7, wc, ne]
  have stay : gi m (c + 1) D := ⟨h.ok, h.r, h.l, h.c, h.f, by have := h.s; omega⟩
  obtain ⟨w, p, s⟩ := ki h hm
  cases h7 : kk.fmod 7 == 3 with
  | false =>
    refine ⟨D, .sh (.int kk), a7, a8, stay, ?_⟩
    simp! [MZ, w, p, s, Bool.not_true, ix, m3, wc]
    cases x.fmod 3 == 0 <;> rfl
  | true =>
    cases he : D.es with
    | nil =>
      refine ⟨D, .sh (.int kk), a7, a8, stay, ?_⟩
      rw [he] at w s
      rw [he, List.map_nil] at p
      rw [he]
      simp! [MZ, w, p, s, Bool.not_true, ix, m3, wc, List.isEmpty_nil]
      cases x.fmod 3 == 0 <;> rfl
    | cons q L =>
      obtain ⟨n, r⟩ := q
      obtain ⟨_, _, c1, c2, inn⟩ := uv h hm hc he
      obtain ⟨w', p', s'⟩ := ki inn hm
      have tc := RL h hm hc he a0 (.sh (.lst (d.map .int))) a2 (.sh (.int D.fo)) (.sh (.int kk)) a7 a8 a9
      refine ⟨_, .sh (.int n), .sh (.int r.1), .sh (.tup (r.2.map kD)), inn, ?_⟩
      rw [he] at tc
      simp! at tc
      simp! [List.isEmpty_cons, Bool.not_false]
      rw [tc]
      rw [c2] at w' p' s' ⊢
      simp! [MZ, w', p', s', Bool.not_true, ix, m3, wc]
      cases x.fmod 3 == 0 <;> rfl
end DY
namespace DY
open PySem PySem.Spec PyProof.Rows L2 DL
theorem gi.weak {m c c' : Nat} {D : Di} (h : gi m c D) (hc : c ≤ c') : gi m c' D := ⟨h.ok, h.r, h.l, h.c, h.f, Nat.le_trans h.s hc⟩
theorem So {m c : Nat} {D : Di} (h : gi m c D) (hm : m ≤ 50) (hc : c ≤ 800) {d : List Int} {x : Int} (ix : cY (.lst (d.map .int)) (.int 1) = some (.int x)) (kk : Int) {e : bN} (he : Bb e) (a0 a2 a9 : Sl) :
    ∃ D' b6 b7 b8, gi (m + 1) (c + 3) D' ∧ mZ [a0, .sh (.lst (d.map .int)), a2, .od (.dia D), .ow (D.es.map aY), .sh (.int D.fo), .sh (.int kk), .sh (.int e.1), .sh (.tup (e.2.map kD)), a9] = some (.nx [a0, .sh (.lst (d.map .int)), a2, .od (.dia D'), .ow (D'.es.map aY), .sh (.int D'.fo), b6, b7, b8, a9]) := by
  have ta := Pf h hm (by omega) (he.c e.1 he.d.1 he.d.2) a0 (.sh (.lst (d.map .int))) a2 (.sh (.int kk)) a9
  have m5 := aL (x := kk) (show (0 : Int) < 5 by decide)
  have ie := Ex h hm he
  obtain ⟨tb, ib, fb⟩ := SW h hm (by omega) he a0 (.sh (.lst (d.map .int))) a2 (.sh (.int (aJ D e).fo)) (.sh (.int kk)) (.sh (.int e.1)) (.sh (.tup (e.2.map kD))) a9
  rw [IV]
  unfold Lh
  simp!
  simp! at ta
  rw [ta]
  have ee : (e.1, e.2) = e := rfl
  rw [ee]
  simp! [m5, wc]
  cases kk.fmod 5 == 4 with
  | true =>
    obtain ⟨D', b6, b7, b8, i', t⟩ := JZ ib (by omega) (by omega) ix kk a0 a2 (.sh (.int e.1)) (.sh (.tup (e.2.map kD))) a9
    refine ⟨D', b6, b7, b8, i', ?_⟩
    rw [if_pos rfl, tb]
    rw [fb] at t
    simp!
    exact t
  | false =>
    obtain ⟨D', b6, b7, b8, i', t⟩ := JZ ie (by omega) (by omega) ix kk a0 a2 (.sh (.int e.1)) (.sh (.tup (e.2.map kD))) a9
    refine ⟨D', b6, b7, b8, i'.weak (by omega), ?_⟩
    rw [if_neg (by exact Bool.false_ne_true)]
    simp!
    exact t
end DY
namespace DY
open PySem PySem.Spec PyProof.Rows L2 DL
theorem IU {d : List Int} {x : Int} (ix : cY (.lst (d.map .int)) (.int 1) = some (.int x)) (a0 a2 a9 : Sl) : ∀ (RS : List (Int × bN)) (m c : Nat) (D : Di) (a6 a7 a8 : Sl), (∀ q ∈ RS, Bb q.2) → gi m c D → m + RS.length ≤ 50 → c + 3 * RS.length ≤ 800 →
    ∃ D' b6 b7 b8, gi (m + RS.length) (c + 3 * RS.length) D' ∧ bz (jM 3 (bw (fName 6) (bw (fName 7) (bw (fName 8) kM)))) mZ (RS.map aY) [a0, .sh (.lst (d.map .int)), a2, .od (.dia D), .ow (D.es.map aY), .sh (.int D.fo), a6, a7, a8, a9] = some (.nx [a0, .sh (.lst (d.map .int)), a2, .od (.dia D'), .ow (D'.es.map aY), .sh (.int D'.fo), b6, b7, b8, a9])
  | [], m, c, D, a6, a7, a8, _, h, _, _ => ⟨D, a6, a7, a8, h, rfl⟩
  | q :: RS, m, c, D, a6, a7, a8, hr, h, hm, hc => by
    rw [List.length_cons] at hm hc
    obtain ⟨D1, b6, b7, b8, i1, t⟩ := So h (by omega) (by omega) ix q.1 (hr q List.mem_cons_self) a0 a2 a9
    obtain ⟨D', c6, c7, c8, i2, e2⟩ := IU ix a0 a2 a9 RS (m + 1) (c + 3) D1 b6 b7 b8 (fun p hp => hr p (List.mem_cons_of_mem _ hp)) i1 (by omega) (by omega)
    refine ⟨D', c6, c7, c8, ?_, ?_⟩
    · rw [List.length_cons, show m + (RS.length + 1) = m + 1 + RS.length by omega, show c + 3 * (RS.length + 1) = c + 3 + 3 * RS.length by omega]
      exact i2
    · rw [List.map_cons, bz]
      unfold aY at e2 ⊢
      simp!
      unfold aY at t
      rw [t]
      exact e2
end DY
namespace DY
open PySem PySem.Spec PyProof.Rows L2 DL
def jn : List (Str × List Str) := [("trestle", ["name", "number", "number", "number"]), ("board", ["name", "number", "number", "number", "number"]), ("away", ["name"]), ("along", ["name", "number"]), ("sack", ["name", "name", "number", "number"]), ("move", ["name", "name", "number"]), ("lift", ["name"]), ("cord", ["name", "upper", "name", "number"]), ("cut", ["name"])]
def FH : List (Str × Nat) := [("trestle", 4), ("board", 5), ("away", 1), ("along", 2), ("sack", 4), ("move", 3), ("lift", 1), ("cord", 4), ("cut", 1)]
theorem MY {w : Str} {ks : List Str} (h : atK jn w = some ks) : atK FH w = some ks.length := by
  have e : FH = jn.map fun q => (q.1, q.2.length) := rfl
  unfold atK at h ⊢
  rw [e, List.find?_map]
  obtain ⟨q, h1, h2⟩ := Option.map_eq_some_iff.mp h
  have : (List.find? ((fun q : Str × Nat => decide (q.1 = w)) ∘ fun q : Str × List Str => (q.1, q.2.length)) jn) = some q := h1
  rw [this, ← h2]
  rfl
theorem sF {w : Str} {ks : List Str} (h : atK jn w = some ks) : (w, ks) ∈ jn := qy h
def Px (s : Str) : Prop := s = "name" ∨ s = "number" ∨ s = "upper"
theorem tO : ∀ q ∈ jn, (∀ s ∈ q.2, Px s) ∧ Hz q.1 ∧ q.2.length ≤ 5 ∧ 1 ≤ q.2.length := by
  have : ∀ q ∈ jn, (∀ s ∈ q.2, s = ("name" : Str) ∨ s = ("number" : Str) ∨ s = ("upper" : Str)) ∧ PyData.strOk q.1 = true ∧ q.2.length ≤ 5 ∧ 1 ≤ q.2.length := by decide +kernel
  exact this
def nh : Key × Str → Prop
  | (.inl i, s) => s = "number" ∧ -9999999999 ≤ i ∧ i ≤ 9999999999
  | (.inr z, s) => (s = "name" ∨ s = "upper") ∧ Hz z ∧ z.length ≤ 1000 ∧ (isName z = true ∨ (s = "upper" ∧ z = ""))
structure gG (row : List Key) : Prop where
  ex : ∃ (w : Str) (ks : List Key) (kd : List Str), row = .inr w :: ks ∧ atK jn w = some kd ∧ ks.length = kd.length ∧ ∀ p ∈ ks.zip kd, nh p
theorem jE (a b : Str) (h : Hz a) (g : Hz b) (neg : Bool) : lK neg (.str a) (.str b) = some (.bl (if neg then !(a == b) else a == b)) := OH neg h g
theorem Vj : Hz "name" := by decide +kernel
theorem Nv : Hz "number" := by decide +kernel
theorem Ou : Hz "upper" := by decide +kernel
theorem U0 : Hz "" := by decide +kernel
theorem VR : (("name" : Str) == "number") = false ∧ (("upper" : Str) == "number") = false ∧ (("number" : Str) == "number") = true ∧ (("name" : Str) == "upper") = false ∧ (("number" : Str) == "upper") = false ∧ (("upper" : Str) == "upper") = true := by decide +kernel
theorem GN (n : Int) : dR [.int n] = some (.bl true) := by
  unfold dR ig
  rfl
theorem J2 {p : Key × Str} (h : nh p) (a0 : Sl) : cD [a0, .sh (kD p.1), .sh (.str p.2)] = some (.nx [a0, .sh (kD p.1), .sh (.str p.2)]) := by
  obtain ⟨n1, n2, n3, n4, n5, n6⟩ := VR
  obtain ⟨k, s⟩ := p
  cases k with
  | inl i =>
    obtain ⟨rfl, h1, h2⟩ := h
    unfold cD
    show CA (j7 ((o2 (lK false) (ao [a0, .sh (.int i), .sh (.str "number")] 2) (some (.str "number"))).bind bD) _) _ _ = _
    simp! [show kD (.inl i) = Dt.int i from rfl, jE "number" "number" Nv Nv, n3, GN, o7, decide_eq_true h1, decide_eq_true h2, Bool.not_true]
  | inr z =>
    obtain ⟨hs, _⟩ := h
    unfold cD
    rcases hs with rfl | rfl
    · simp! [jE "name" "number" Vj Nv, n1]
    · simp! [jE "upper" "number" Ou Nv, n2]
theorem HQ {p : Key × Str} (h : nh p) (a0 : Sl) : dF [a0, .sh (kD p.1), .sh (.str p.2)] = some (.nx [a0, .sh (kD p.1), .sh (.str p.2)]) ∨ dF [a0, .sh (kD p.1), .sh (.str p.2)] = some (.ct [a0, .sh (kD p.1), .sh (.str p.2)]) := by
  obtain ⟨n1, n2, n3, n4, n5, n6⟩ := VR
  obtain ⟨k, s⟩ := p
  unfold dF
  cases k with
  | inl i =>
    obtain ⟨rfl, h1, h2⟩ := h
    left
    simp! [jE "number" "upper" Nv Ou, n5, jE "number" "number" Nv Nv, n3, Bool.not_true]
  | inr z =>
    obtain ⟨hs, sz, hl, hn⟩ := h
    have nm : isName z = true → kr [.str z] = some (.bl true) := fun e => by
      show (if z.length ≤ 1000 then some (Dt.bl (isName z)) else none) = _
      rw [if_pos hl, e]
    rcases hs with rfl | rfl
    · left
      have hn : isName z = true := hn.resolve_right fun e => absurd e.1 (by decide +kernel)
      simp! [show kD (.inr z) = .str z from rfl, jE "name" "upper" Vj Ou, n4, jE "name" "number" Vj Nv, n1, nm hn, Bool.not_false, Bool.not_true]
    · by_cases e : z = ""
      · right
        subst e
        simp! [show kD (.inr ("" : Str)) = .str "" from rfl, jE "upper" "upper" Ou Ou, n6, jE "" "" U0 U0, show (("" : Str) == "") = true from rfl, aN]
      · left
        have hn : isName z = true := hn.resolve_right fun x => e x.2
        have ze : (z == ("" : Str)) = false := by simpa using e
        simp! [show kD (.inr z) = .str z from rfl, jE "upper" "upper" Ou Ou, n6, jE z "" sz U0, ze, jE "upper" "number" Ou Nv, n2, nm hn, Bool.not_false, Bool.not_true]
def sA (p : Key × Str) : Dt := .tup [kD p.1, .str p.2]
theorem o8 : ∀ (ks : List Key) (kd : List Str), kg (ks.map kD) (kd.map .str) = (ks.zip kd).map sA
  | [], _ => by rw [List.map_nil, kg, List.zip_nil_left]; rfl
  | _ :: _, [] => by rw [List.map_cons, List.map_nil, kg, List.zip_nil_right]; rfl
  | k :: ks, d :: kd => by rw [List.map_cons, List.map_cons, kg, o8 ks kd, List.zip_cons_cons]; rfl
theorem DC (a0 : Sl) : ∀ (ps : List (Key × Str)) (b c : Sl), (∀ p ∈ ps, nh p) → ∃ b' c', bz (jM 2 (bw (fName 1) (bw (fName 2) kM))) cD (ps.map sA) [a0, b, c] = some (.nx [a0, b', c'])
  | [], b, c, _ => ⟨b, c, rfl⟩
  | p :: ps, b, c, h => by
    obtain ⟨b', c', e⟩ := DC a0 ps (.sh (kD p.1)) (.sh (.str p.2)) fun q hq => h q (List.mem_cons_of_mem _ hq)
    refine ⟨b', c', ?_⟩
    rw [List.map_cons, bz]
    unfold sA at e ⊢
    simp! [J2 (h p List.mem_cons_self)]
    exact e
theorem wg (a0 : Sl) : ∀ (ps : List (Key × Str)) (b c : Sl), (∀ p ∈ ps, nh p) → ∃ b' c', bz (jM 2 (bw (fName 1) (bw (fName 2) kM))) dF (ps.map sA) [a0, b, c] = some (.nx [a0, b', c'])
  | [], b, c, _ => ⟨b, c, rfl⟩
  | p :: ps, b, c, h => by
    obtain ⟨b', c', e⟩ := wg a0 ps (.sh (kD p.1)) (.sh (.str p.2)) fun q hq => h q (List.mem_cons_of_mem _ hq)
    refine ⟨b', c', ?_⟩
    rw [List.map_cons, bz]
    unfold sA at e ⊢
    rcases HQ (h p List.mem_cons_self) a0 with t | t
    · simp! [t]
      exact e
    · simp! [t]
      exact e
theorem NQ {w : Str} {ks : List Key} {kd : List Str} (h : atK jn w = some kd) (hl : ks.length = kd.length) : gA [.tup (.str w :: ks.map kD)] = some .non := by
  obtain ⟨_, sw, l5, l1⟩ := tO _ (sF h)
  have hn := MY h
  have mem : w ∈ FH.map (·.1) := List.mem_map_of_mem (f := (·.1)) (qy hn)
  have e1 : vX (FH.map (·.1)) (.str w) = some (.bl false) := if_pos mem
  have e2 : wN FH (.str w) = some (.int (kd.length : Nat)) := by show (atK FH w).map _ = _; rw [hn]; rfl
  unfold gA jm
  have hx : cY (.tup (.str w :: ks.map kD)) (.int 0) = some (.str w) := tV _ 0
  have hL : qh [.tup (.str w :: ks.map kD)] = some (.int ((ks.length + 1 : Nat) : Int)) := by
    show some (Dt.int (((Dt.str w :: ks.map kD).length : Nat) : Int)) = _
    rw [List.length_cons, List.length_map]
  have c1 : (((ks.length + 1 : Nat) : Int) == 0) = false := by simp; omega
  have c2 : (((ks.length + 1 : Nat) : Int) == 1 + (kd.length : Int)) = true := by rw [hl]; simp; omega
  unfold FH at e1 e2
  simp! at e1
  simp! [hx, hL, wc, c1, e1, e2, c2, Bool.not_true]
theorem Tn {dy : Int} (h1 : 1 ≤ dy) (h2 : dy ≤ 9999) : g9 [.int dy] = some .non := by
  unfold g9 jR
  simp! [GN, o7, decide_eq_true h1, decide_eq_true h2, Bool.not_true]
theorem Fo {w : Str} {ks : List Key} {kd : List Str} (h : atK jn w = some kd) (hp : ∀ p ∈ ks.zip kd, nh p) : eH [.tup (.str w :: ks.map kD)] = some .non := by
  unfold eH gh
  obtain ⟨b', c', e⟩ := DC (.sh (.tup (.str w :: ks.map kD))) (ks.zip kd) .no .no hp
  have hz : Hi jn (some (.tup (ks.map kD))) (some (.str w)) = some ((ks.zip kd).map sA) := by
    show (atK jn w).map (fun l => kg (ks.map kD) (l.map .str)) = _
    rw [h, Option.map_some, o8]
  have hs : HL (.tup (.str w :: ks.map kD)) (some 1) none = some (.tup (ks.map kD)) := by
    show some (Dt.tup (cutD (Dt.str w :: ks.map kD) (some ((1 : Nat) : Int)) none)) = _
    rw [nN]
    rfl
  have hx : cY (.tup (.str w :: ks.map kD)) (.int 0) = some (.str w) := tV _ 0
  unfold jn at hz
  simp! [hs, hx, hz]
  rw [e]
  rfl
theorem AN {w : Str} {ks : List Key} {kd : List Str} (h : atK jn w = some kd) (hp : ∀ p ∈ ks.zip kd, nh p) : fU [.tup (.str w :: ks.map kD)] = some .non := by
  unfold fU iL
  obtain ⟨b', c', e⟩ := wg (.sh (.tup (.str w :: ks.map kD))) (ks.zip kd) .no .no hp
  have hz : Hi jn (some (.tup (ks.map kD))) (some (.str w)) = some ((ks.zip kd).map sA) := by
    show (atK jn w).map (fun l => kg (ks.map kD) (l.map .str)) = _
    rw [h, Option.map_some, o8]
  have hs : HL (.tup (.str w :: ks.map kD)) (some 1) none = some (.tup (ks.map kD)) := by
    show some (Dt.tup (cutD (Dt.str w :: ks.map kD) (some ((1 : Nat) : Int)) none)) = _
    rw [nN]
    rfl
  have hx : cY (.tup (.str w :: ks.map kD)) (.int 0) = some (.str w) := tV _ 0
  unfold jn at hz
  simp! [hs, hx, hz]
  rw [e]
  rfl
theorem Dq {dy : Int} (h1 : 1 ≤ dy) (h2 : dy ≤ 9999) {row : List Key} (h : gG row) : aD [.int dy, .tup (row.map kD)] = some .non := by
  obtain ⟨w, ks, kd, rfl, hk, hl, hp⟩ := h.ex
  have e1 := Tn h1 h2
  have e2 := NQ hk hl
  have e3 := Fo hk hp
  have e4 := AN hk hp
  show aD [.int dy, .tup (.str w :: ks.map kD)] = some .non
  unfold aD iA
  simp! [e1, e2, e3, e4]
def DH : List Key → List Str → Prop
  | [], [] => True
  | k :: ks, d :: kd => nh (k, d) ∧ DH ks kd
  | _, _ => False
theorem DH.zip : ∀ {ks : List Key} {kd : List Str}, DH ks kd → ks.length = kd.length ∧ ∀ p ∈ ks.zip kd, nh p
  | [], [], _ => ⟨rfl, fun p hp => by cases hp⟩
  | k :: ks, d :: kd, h => by
    obtain ⟨h1, h2⟩ := h
    obtain ⟨g1, g2⟩ := DH.zip h2
    refine ⟨by rw [List.length_cons, List.length_cons, g1], fun p hp => ?_⟩
    rw [List.zip_cons_cons] at hp
    rcases List.mem_cons.mp hp with rfl | hp
    · exact h1
    · exact g2 p hp
  | [], _ :: _, h => h.elim
  | _ :: _, [], h => h.elim
theorem l8 {w : Str} {ks : List Key} (kd : List Str) (h : atK jn w = some kd) (ha : DH ks kd) : gG (.inr w :: ks) := ⟨⟨w, ks, kd, rfl, h, ha.zip.1, ha.zip.2⟩⟩
theorem tS {z : Str} (h : isName z = true) : z.length ≤ 8 := by
  unfold isName at h
  simp only [Bool.and_eq_true, decide_eq_true_eq] at h
  exact h.2.1
theorem H9 {z : Str} (h : isName z = true) : nh (.inr z, "name") := ⟨.inl rfl, Cn h, by have := tS h; omega, .inl h⟩
theorem Wh {z : Str} (h : isName z = true) : nh (.inr z, "upper") := ⟨.inr rfl, Cn h, by have := tS h; omega, .inl h⟩
theorem WA : nh (.inr "", "upper") := ⟨.inr rfl, U0, by decide, .inr ⟨rfl, rfl⟩⟩
theorem HZ {i : Int} (h1 : -9999999999 ≤ i) (h2 : i ≤ 9999999999) : nh (.inl i, "number") := ⟨rfl, h1, h2⟩
theorem Hh {n : Str} {c l r : Int} (hn : isName n = true) (hc : -9999999999 ≤ c ∧ c ≤ 9999999999) (hl : -9999999999 ≤ l ∧ l ≤ 9999999999) (hr : -9999999999 ≤ r ∧ r ≤ 9999999999) : gG [.inr "trestle", .inr n, .inl c, .inl l, .inl r] := l8 ["name", "number", "number", "number"] (by decide +kernel) ⟨H9 hn, HZ hc.1 hc.2, HZ hl.1 hl.2, HZ hr.1 hr.2, trivial⟩
theorem Ng {n : Str} {c l r g : Int} (hn : isName n = true) (hc : -9999999999 ≤ c ∧ c ≤ 9999999999) (hl : -9999999999 ≤ l ∧ l ≤ 9999999999) (hr : -9999999999 ≤ r ∧ r ≤ 9999999999) (hg : -9999999999 ≤ g ∧ g ≤ 9999999999) : gG [.inr "board", .inr n, .inl c, .inl l, .inl r, .inl g] := l8 ["name", "number", "number", "number", "number"] (by decide +kernel) ⟨H9 hn, HZ hc.1 hc.2, HZ hl.1 hl.2, HZ hr.1 hr.2, HZ hg.1 hg.2, trivial⟩
theorem Qh {n : Str} (hn : isName n = true) : gG [.inr "away", .inr n] := l8 ["name"] (by decide +kernel) ⟨H9 hn, trivial⟩
theorem Ss {n : Str} (hn : isName n = true) : gG [.inr "lift", .inr n] := l8 ["name"] (by decide +kernel) ⟨H9 hn, trivial⟩
theorem Oh {n : Str} (hn : isName n = true) : gG [.inr "cut", .inr n] := l8 ["name"] (by decide +kernel) ⟨H9 hn, trivial⟩
theorem Nz {n : Str} {l : Int} (hn : isName n = true) (hl : -9999999999 ≤ l ∧ l ≤ 9999999999) : gG [.inr "along", .inr n, .inl l] := l8 ["name", "number"] (by decide +kernel) ⟨H9 hn, HZ hl.1 hl.2, trivial⟩
theorem Mm {n m : Str} {l g : Int} (hn : isName n = true) (hm : isName m = true) (hl : -9999999999 ≤ l ∧ l ≤ 9999999999) (hg : -9999999999 ≤ g ∧ g ≤ 9999999999) : gG [.inr "sack", .inr n, .inr m, .inl l, .inl g] := l8 ["name", "name", "number", "number"] (by decide +kernel) ⟨H9 hn, H9 hm, HZ hl.1 hl.2, HZ hg.1 hg.2, trivial⟩
theorem Pj {n m : Str} {l : Int} (hn : isName n = true) (hm : isName m = true) (hl : -9999999999 ≤ l ∧ l ≤ 9999999999) : gG [.inr "move", .inr n, .inr m, .inl l] := l8 ["name", "name", "number"] (by decide +kernel) ⟨H9 hn, H9 hm, HZ hl.1 hl.2, trivial⟩
theorem Jf {n u m : Str} {l : Int} (hn : isName n = true) (hu : isName u = true ∨ u = "") (hm : isName m = true) (hl : -9999999999 ≤ l ∧ l ≤ 9999999999) : gG [.inr "cord", .inr n, .inr u, .inr m, .inl l] := l8 ["name", "upper", "name", "number"] (by decide +kernel) ⟨H9 hn, hu.elim Wh fun e => e ▸ WA, H9 hm, HZ hl.1 hl.2, trivial⟩
end DY
namespace DY
open PySem PySem.Spec PyProof.Rows L2 DL
theorem MS {i : Int} (h1 : -9999999999 ≤ i) (h2 : i ≤ 9999999999) : i.natAbs.log2 < 1920 := by
  by_cases z : i.natAbs = 0
  · rw [z]; decide
  · have := (Nat.log2_lt z (k := 34)).mpr (by show i.natAbs < 17179869184; omega)
    omega
theorem FZ : ∀ q ∈ jn, q.1.length ≤ 100 := by decide +kernel
theorem Ca : ∀ {ks : List Key} {kd : List Str}, ks.length = kd.length → ∀ k ∈ ks, ∃ d, (k, d) ∈ ks.zip kd
  | [], _, _, k, hk => by cases hk
  | _ :: _, [], h, _, _ => by cases h
  | a :: ks, d :: kd, h, k, hk => by
    rw [List.zip_cons_cons]
    rcases List.mem_cons.mp hk with rfl | hk
    · exact ⟨d, List.mem_cons_self⟩
    · obtain ⟨d', hd⟩ := Ca (ks := ks) (kd := kd) (by rw [List.length_cons, List.length_cons] at h; omega) k hk
      exact ⟨d', List.mem_cons_of_mem _ hd⟩
theorem B0 {row : List Key} (h : gG row) : (∀ k ∈ row, Oq k) ∧ row.length ≤ 6 ∧ row ≠ [] := by
  obtain ⟨w, ks, kd, rfl, hk, hl, hp⟩ := h.ex
  obtain ⟨_, sw, l5, _⟩ := tO _ (sF hk)
  refine ⟨fun k hk' => ?_, by rw [List.length_cons]; have l5 : kd.length ≤ 5 := l5; omega, List.cons_ne_nil _ _⟩
  rcases List.mem_cons.mp hk' with rfl | hk'
  · exact ⟨sw, FZ _ (sF hk)⟩
  · obtain ⟨d, hd⟩ := Ca hl k hk'
    have t := hp _ hd
    cases k with
    | inl i => exact MS t.2.1 t.2.2
    | inr z =>
      refine ⟨t.2.1, ?_⟩
      rcases t.2.2.2 with e | e
      · have := tS e; omega
      · rw [e.2]; decide
theorem newR {e : bN} (h1 : 1 ≤ e.1) (h2 : e.1 ≤ 9999) (h : gG e.2) : Bb e := by
  obtain ⟨w, l, x⟩ := B0 h
  exact ⟨⟨h1, h2⟩, w, l, x, fun dy d1 d2 => Dq d1 d2 h⟩
theorem E6 {T : List (Int × bN)} (h : ∀ q ∈ T, q.2.2.length ≤ 1000) (hl : T.length ≤ 1000) : Plain 6 (.lst (T.map aY)) := .lst (by rw [List.length_map]; exact hl) fun i d e => by
  obtain ⟨q, hq, rfl⟩ := List.mem_map.mp (List.mem_of_getElem? e)
  exact .tup (by show 3 ≤ 1000; decide) fun j c ec => by
    have hc := List.mem_of_getElem? ec
    simp only [List.mem_cons, List.not_mem_nil, or_false] at hc
    rcases hc with rfl | rfl | rfl
    · exact .int _
    · exact .int _
    · exact .tup (by rw [List.length_map]; exact h q hq) fun m b eb => by
        obtain ⟨k, _, rfl⟩ := List.mem_map.mp (List.mem_of_getElem? eb)
        cases k with
        | inl i => exact .int _
        | inr s => exact .str _
end DY
namespace DY
open PySem PySem.Spec PyProof.Rows L2 DL
def v7 (n o m : Str) (L x4 x5 x6 : Int) : List (List Key) := [[.inr "trestle", .inr n, .inl (x4.fmod 12 - 1), .inl L, .inl (L + x5.fmod 9)], [.inr "away", .inr n], [.inr "along", .inr n, .inl L], [.inr "board", .inr n, .inl (1 + x4.fmod 9), .inl L, .inl (L + 1 + x5), .inl (1 + x6)], [.inr "cut", .inr n], [.inr "lift", .inr n], [.inr "sack", .inr n, .inr o, .inl L, .inl (1 + x5)], [.inr "move", .inr n, .inr o, .inl L], [.inr "cord", .inr n, .inr "", .inr o, .inl L], [.inr "cord", .inr n, .inr o, .inr m, .inl L], [.inr "sack", .inr n, .inr o, .inl L, .inl (x5.fmod 1009 * 1000000)]]
theorem Lm {n o m : Str} {L x4 x5 x6 : Int} (hn : isName n = true) (ho : isName o = true) (hm : isName m = true) (hL : -6000000000 ≤ L ∧ L ≤ 6000000000) (h5 : 0 ≤ x5 ∧ x5 < 1000003) (h6 : 0 ≤ x6 ∧ x6 < 1000003) : ∀ r ∈ v7 n o m L x4 x5 x6, gG r := by
  have a1 := cy x4 (show (0 : Int) < 12 by decide)
  have a2 := cy x5 (show (0 : Int) < 9 by decide)
  have a3 := cy x4 (show (0 : Int) < 9 by decide)
  have a4 := cy x5 (show (0 : Int) < 1009 by decide)
  have lL : -9999999999 ≤ L ∧ L ≤ 9999999999 := by omega
  intro r hr
  unfold v7 at hr
  simp only [List.mem_cons, List.not_mem_nil, or_false] at hr
  rcases hr with rfl | rfl | rfl | rfl | rfl | rfl | rfl | rfl | rfl | rfl | rfl
  · exact Hh hn (by omega) lL (by omega)
  · exact Qh hn
  · exact Nz hn lL
  · exact Ng hn (by omega) lL (by omega) (by omega)
  · exact Oh hn
  · exact Ss hn
  · exact Mm hn ho lL (by omega)
  · exact Pj hn ho lL
  · exact Jf hn (.inr rfl) ho lL
  · exact Jf hn (.inl ho) hm lL
  · exact Mm hn ho lL (by omega)
theorem UD (x2 x3 : Int) (h2 : 0 ≤ x2 ∧ x2 < 1000003) : ∃ L, cY (.lst [.int (x2.fmod 40 - 10), .int (x2 - 500), .int ((x2.fmod 1009 - 500) * 10000000), .int 0]) (.int (x3.fmod 4)) = some (.int L) ∧ (-6000000000 ≤ L ∧ L ≤ 6000000000) := by
  have a1 := cy x2 (show (0 : Int) < 40 by decide)
  have a2 := cy x2 (show (0 : Int) < 1009 by decide)
  obtain ⟨k, hk, h4⟩ := UU x3 (m := 4) (by decide)
  have hk : x3.fmod 4 = (k : Int) := hk
  rw [hk]
  obtain rfl | rfl | rfl | rfl : k = 0 ∨ k = 1 ∨ k = 2 ∨ k = 3 := by omega
  · exact ⟨_, jG _ 0, by omega⟩
  · exact ⟨_, jG _ 1, by omega⟩
  · exact ⟨_, jG _ 2, by omega⟩
  · exact ⟨_, jG _ 3, by omega⟩
theorem Vy : FG (.int 10) (.int 7) = some (.int 10000000) := (rfl)
theorem LD (xs ys : List Dt) (h : decide (xs.length + ys.length ≤ 1000000) = true) : UX G6 (some (.lst xs)) (some (.lst ys)) = some (xs ++ ys) := if_pos h
theorem Kw {zs : List Str} (hz : ∀ z ∈ zs, isName z = true) (hne : zs ≠ []) {d : List Int} (hd : Fd d) (hl : 8 ≤ d.length) : ∃ row, eG [.lst (zs.map .str), .lst (d.map .int)] = some (.tup (row.map kD)) ∧ gG row := by
  obtain ⟨x0, i0, _⟩ := BS hd (i := 0) (by decide) (by omega)
  obtain ⟨x1, i1, _⟩ := BS hd (i := 1) (by decide) (by omega)
  obtain ⟨x2, i2, b2⟩ := BS hd (i := 2) (by decide) (by omega)
  obtain ⟨x3, i3, _⟩ := BS hd (i := 3) (by decide) (by omega)
  obtain ⟨x4, i4, _⟩ := BS hd (i := 4) (by decide) (by omega)
  obtain ⟨x5, i5, b5⟩ := BS hd (i := 5) (by decide) (by omega)
  obtain ⟨x6, i6, b6⟩ := BS hd (i := 6) (by decide) (by omega)
  obtain ⟨x7, i7, _⟩ := BS hd (i := 7) (by decide) (by omega)
  obtain ⟨n, mn, pn⟩ := pick Dt.str x0 hne
  obtain ⟨o, mo, po⟩ := pick Dt.str x1 hne
  obtain ⟨m, mm, pm⟩ := pick Dt.str x6 hne
  obtain ⟨L, eL, bL⟩ := UD x2 x3 b2
  have ok := Lm (x4 := x4) (hz n mn) (hz o mo) (hz m mm) bL b5 b6
  obtain ⟨k, hk, h11⟩ := UU x7 (m := 11) (by decide)
  have hk : x7.fmod 11 = (k : Int) := hk
  have hlen : (v7 n o m L x4 x5 x6).length = 11 := rfl
  refine ⟨(v7 n o m L x4 x5 x6)[k]'(by rw [hlen]; exact h11), ?_, ok _ (List.getElem_mem _)⟩
  have fin : cY (.lst ((v7 n o m L x4 x5 x6).map fun r => Dt.tup (r.map kD))) (.int (x7.fmod 11)) = some (.tup (((v7 n o m L x4 x5 x6)[k]'(by rw [hlen]; exact h11)).map kD)) := by
    rw [hk, jG, List.getElem?_map, List.getElem?_eq_getElem]
    rfl
  have a2 := cy x2 (show (0 : Int) < 1009 by decide)
  have a5 := cy x5 (show (0 : Int) < 1009 by decide)
  have m1 : jN (.int (x2.fmod 1009 - 500)) (.int 10000000) = some (.int ((x2.fmod 1009 - 500) * 10000000)) := gT (show Bd 11 _ from MQ (by omega) (by omega)) (show Bd 24 _ from MQ (by decide) (by decide)) (by decide)
  have m2 : jN (.int (x5.fmod 1009)) (.int 1000000) = some (.int (x5.fmod 1009 * 1000000)) := gT (show Bd 11 _ from MQ (by omega) (by omega)) (show Bd 24 _ from MQ (by decide) (by decide)) (by decide)
  simp! [List.length_map] at pn po pm
  unfold eG gg
  simp! [i0, i1, i2, i3, i4, i5, i6, i7, List.length_map, pn, po, pm, eL, aL (show (0 : Int) < 40 by decide), aL (show (0 : Int) < 1009 by decide), aL (show (0 : Int) < 4 by decide), aL (show (0 : Int) < 12 by decide), aL (show (0 : Int) < 9 by decide), aL (show (0 : Int) < 11 by decide), Vy, Hu, m1, m2]
  rw [LD _ _ (by simp)]
  simp! [i0, i1, i2, i3, i4, i5, i6, i7, List.length_map, pn, po, pm, aL (show (0 : Int) < 12 by decide), aL (show (0 : Int) < 9 by decide), aL (show (0 : Int) < 1009 by decide), aL (show (0 : Int) < 11 by decide), Hu, m2]
  rw [LD _ _ (by simp)]
  simp! [i0, i1, i2, i3, i4, i5, i6, i7, List.length_map, pn, po, pm, aL (show (0 : Int) < 12 by decide), aL (show (0 : Int) < 9 by decide), aL (show (0 : Int) < 1009 by decide), aL (show (0 : Int) < 11 by decide), Hu, m2]
  rw [fR rfl (by simp)]
  simp! [i0, i1, i2, i3, i4, i5, i6, i7, List.length_map, pn, po, pm, aL (show (0 : Int) < 12 by decide), aL (show (0 : Int) < 9 by decide), aL (show (0 : Int) < 1009 by decide), aL (show (0 : Int) < 11 by decide), Hu, m2]
  rw [fR rfl (by simp)]
  simp! [i0, i1, i2, i3, i4, i5, i6, i7, List.length_map, pn, po, pm, aL (show (0 : Int) < 12 by decide), aL (show (0 : Int) < 9 by decide), aL (show (0 : Int) < 1009 by decide), aL (show (0 : Int) < 11 by decide), Hu, m2]
  rw [fR rfl (by simp)]
  simp! [i0, i1, i2, i3, i4, i5, i6, i7, List.length_map, pn, po, pm, aL (show (0 : Int) < 12 by decide), aL (show (0 : Int) < 9 by decide), aL (show (0 : Int) < 1009 by decide), aL (show (0 : Int) < 11 by decide), Hu, m2]
  exact congrArg (fun o : Option Dt => (o.map Rs.rt).bind gj) fin
end DY
namespace DY
open PySem PySem.Spec PyProof.Rows L2 DL
theorem wu {zs : List Str} (hz : ∀ z ∈ zs, isName z = true) (hne : zs ≠ []) {d : List Int} (hd : Fd d) (hdl : d.length ≤ 100000) (a2 : Sl) : ∀ (ks : List Nat) (acc : List (Int × bN)) (nu : Int) (b5 b6 : Sl), (∀ k ∈ ks, 11 * k + 11 ≤ d.length) → (∀ q ∈ acc, Bb q.2) → acc.length + ks.length ≤ 1000 →
    ∃ (acc' : List (Int × bN)) (nu' : Int) (b5' b6' : Sl), acc'.length = acc.length + ks.length ∧ (∀ q ∈ acc', Bb q.2) ∧ bz (fName 5) eN (ks.map fun k : Nat => Dt.int (k : Nat)) [.sh (.lst (d.map .int)), .sh (.lst (zs.map .str)), a2, .ow (acc.map aY), .sh (.int nu), b5, b6] = some (.nx [.sh (.lst (d.map .int)), .sh (.lst (zs.map .str)), a2, .ow (acc'.map aY), .sh (.int nu'), b5', b6'])
  | [], acc, nu, b5, b6, _, hr, _ => ⟨acc, nu, b5, b6, rfl, hr, rfl⟩
  | k :: ks, acc, nu, b5, b6, hk, hr, hl => by
    have h11 := hk k List.mem_cons_self
    rw [List.length_cons] at hl
    have dl : ((d.drop (11 * k)).take 11).length = 11 := by rw [List.length_take, List.length_drop]; omega
    have fd : Fd ((d.drop (11 * k)).take 11) := (hd.drop _).take _
    obtain ⟨x8, i8, _⟩ := BS fd (i := 8) (by decide) (by omega)
    obtain ⟨x9, i9, _⟩ := BS fd (i := 9) (by decide) (by omega)
    obtain ⟨x10, i10, _⟩ := BS fd (i := 10) (by decide) (by omega)
    obtain ⟨row, er, ro⟩ := Kw hz hne fd (by omega)
    obtain ⟨y1, e1, o1⟩ := UL x9 1 4
    obtain ⟨y2, e2, o2⟩ := UL x10 12 9999
    have p1 : 0 < y1 := by omega
    have p2 : 0 < y2 := by omega
    have c2 := cy x9 p2
    have mu : jN (.int 11) (.int (k : Nat)) = some (.int ((11 * k : Nat) : Int)) := by
      rw [gT (show Bd 4 11 from MQ (by decide) (by decide)) (show Bd 30 (k : Int) from MQ (by omega) (by omega)) (by decide)]
      rfl
    have sl : HL (.lst (d.map .int)) (some ((11 * k : Nat) : Int)) (some (((11 * k : Nat) : Int) + 11)) = some (.lst (((d.drop (11 * k)).take 11).map .int)) := by
      show some (Dt.lst (cutD (d.map .int) (some ((11 * k : Nat) : Int)) (some ((11 * k + 11 : Nat) : Int)))) = _
      rw [Cd, show 11 * k + 11 - 11 * k = 11 by omega, ← List.map_drop, ← List.map_take]
    obtain ⟨acc', nu', b5', b6', l1, n1, t⟩ := wu hz hne hd hdl a2 ks (acc ++ [(nu + 1 + x8.fmod y1, (1 + x9.fmod y2, row))]) (nu + 1 + x8.fmod y1) (.sh (.int (k : Nat))) (.sh (.lst (((d.drop (11 * k)).take 11).map .int))) (fun q hq => hk q (List.mem_cons_of_mem _ hq)) (fun q hq => by
      rcases List.mem_append.mp hq with z | z
      · exact hr q z
      · rw [List.mem_singleton.mp z]
        exact newR (by show 1 ≤ 1 + x9.fmod y2; omega) (by show 1 + x9.fmod y2 ≤ 9999; omega) ro) (by rw [List.length_append]; show acc.length + 1 + _ ≤ _; omega)
    refine ⟨acc', nu', b5', b6', by rw [l1]; simp only [List.length_append, List.length_cons, List.length_nil]; omega, n1, ?_⟩
    rw [List.map_append] at t
    rw [List.map_cons, bz]
    unfold eN
    simp! [mu, sl, i8, i9, i10, aL (show (0 : Int) < 2 by decide), e1, e2, aL p1, aL p2, er]
    rw [fR (ds := acc.map aY) rfl (by rw [List.length_map]; omega)]
    simp!
    exact t
end DY
namespace DY
open PySem PySem.Spec PyProof.Rows L2 DL
theorem HS {zs : List Str} (hz : ∀ z ∈ zs, isName z = true) (hne : zs ≠ []) {d : List Int} (hd : Fd d) {n : Nat} (hn : n ≤ 40) (hl : 11 * n ≤ d.length) (hdl : d.length ≤ 100000) (h0 : d ≠ []) : ∃ RS : List (Int × bN), ∃ x : Int, RS.length = n ∧ (∀ q ∈ RS, Bb q.2) ∧ cU [.lst (d.map .int), .lst (zs.map .str), .int (n : Nat)] = some (.tup [.lst (RS.map aY), .int x]) := by
  have l0 : 0 < d.length := List.length_pos_iff.mpr h0
  obtain ⟨x0, i0, _⟩ := BS hd (i := 0) (by decide) (by omega)
  have rn : lE [.int (n : Nat)] = some ((List.range n).map fun i : Nat => Dt.int (i : Nat)) := by
    show (if -1000000 ≤ (n : Int) ∧ (n : Int) ≤ 1000000 then some (dI 0 (n : Int).toNat) else none) = _
    rw [if_pos (by omega), Int.toNat_natCast]
    unfold dI
    simp only [Int.zero_add]
  obtain ⟨RS, nu, b5, b6, l1, n1, t⟩ := wu hz hne hd hdl (.sh (.int (n : Nat))) (List.range n) [] 0 .no .no (fun k hk => by have := List.mem_range.mp hk; omega) (fun q hq => by cases hq) (by rw [List.length_range]; show 0 + n ≤ _; omega)
  refine ⟨RS, nu + 1 + x0.fmod 3, by rw [l1, List.length_range]; exact Nat.zero_add n, n1, ?_⟩
  rw [List.map_nil] at t
  unfold cU fE
  simp! [rn, i0, aL (show (0 : Int) < 3 by decide)]
  rw [t]
  simp! [i0, aL (show (0 : Int) < 3 by decide)]
end DY
namespace DY
open PySem PySem.Spec PyProof.Rows L2 DL
noncomputable def Az (e : En) : Option Rs :=
    (aN (((ai (some (Dt.int 2)) (some [])).bind lE).bind fun xs => bz (fName 9) qE xs e) fun e =>
    (aN (kG e 3 (ai (some (Dt.int 5)) (ai ((ai (some (Dt.str "cut")) (ai (o2 cY (ao e 2) (some (Dt.int 0))) (some []))).bind fu) (some [])))) fun e =>
    (aN (nC e 3) fun e =>
    (MW (frz e 4) fun e => ((Ux e fun e => (pV ((ai ((ai (ao e 3) (some [])).bind (ar 1 dZ)) (ai ((ai (ao e 4) (ai (ao e 5) (some []))).bind (ar 2 cF)) (some []))).bind (ar 2 aO)) ((ai (((ao e 3).bind JM).map Dt.lst) (ai (ao e 4) (some []))).bind (ar 2 aO)))).map Rs.rt)))))
noncomputable def GJ (e : En) : Option Rs :=
    (aN (eU ((ai (ao e 0) (ai (some (Dt.int 470)) (some []))).bind (ar 2 eS)) (fName 1) e) fun e =>
    (aN (eU ((ai (HM (ao e 1) ((some (Dt.int 2)).bind iD) ((some (Dt.int 6)).bind iD)) (ai (some (Dt.int 8)) (some []))).bind (ar 2 eg)) (fName 2) e) fun e =>
    (aN ((some (Dt.dia d0)).map fun d => Rs.nx (e.set 3 (Sl.od d))) fun e =>
    (aN (((some []).bind vm).map fun ds => Rs.nx (e.set 4 (Sl.ow ds))) fun e =>
    (aN (eU (some (Dt.int 1)) (fName 5) e) fun e =>
    (aN (((o2 cY ((ai (HM (ao e 1) ((some (Dt.int 10)).bind iD) (some none)) (ai (ao e 2) (ai (o2 dD (o2 cY (ao e 1) (some (Dt.int 0))) (some (Dt.int 41))) (some [])))).bind (ar 3 cU)) (some (Dt.int 0))).bind sD).bind fun xs => bz (jM 3 (bw (fName 6) (bw (fName 7) (bw (fName 8) kM)))) mZ xs e) fun e =>
    Az e))))))
theorem G7 (e : En) : JR e = GJ e := (rfl)
theorem FW {m c : Nat} {D : Di} (h : gi m c D) (hm : m ≤ 50) (hc : c ≤ 800) {zs : List Str} {z : Str} (iz : cY (.lst (zs.map .str)) (.int 0) = some (.str z)) (hz : isName z = true) (a0 a1 a6 a7 a8 a9 : Sl) :
    Az [a0, a1, .sh (.lst (zs.map .str)), .od (.dia D), .ow (D.es.map aY), .sh (.int D.fo), a6, a7, a8, a9] = some (.rt (.bl true)) := by
  have rn : lE [.int 2] = some [.int 0, .int 1] := rfl
  have ck : aD [.int 5, .tup [.str "cut", .str z]] = some .non := Dq (by decide) (by decide) (Oh hz)
  have ln := h.l
  have ls := h.s
  obtain ⟨g1, g2, g3, g4⟩ := EL h.ok (5, [.inr "cut", .inr z])
  have VF : vM (mW (aJ D (5, [.inr "cut", .inr z])) D.fo none (some (5, [.inr "cut", .inr z]))) := ⟨by rw [g3]; exact h.ok.up, by rw [g3, g4]; exact h.ok.lo⟩
  have E1 := Ez (env := [a0, a1, .sh (.lst (zs.map .str)), .od (.dia D), .ow (D.es.map aY), .sh (.int D.fo), a6, a7, a8, .sh (.int 1)]) (i := 3) (D := D) (day := 5) (row := [.inr "cut", .inr z]) rfl ck (by omega) (by omega)
  obtain ⟨e1, e2, _⟩ := iY h.ok (5, [.inr "cut", .inr z])
  have E2 := HR (env := [a0, a1, .sh (.lst (zs.map .str)), .od (.dia (aJ D (5, [.inr "cut", .inr z]))), .ow (D.es.map aY), .sh (.int D.fo), a6, a7, a8, .sh (.int 1)]) (i := 3) (D := aJ D (5, [.inr "cut", .inr z])) (n := D.fo) (x := none) (y := some (5, [.inr "cut", .inr z])) rfl g1 (fun _ => g2) (by rw [e1, List.length_append]; show _ + 1 < _; omega) (by show (0 : Nat) < 1000; decide)
  have ib : gi m (c + 1) (mW (aJ D (5, [.inr "cut", .inr z])) D.fo none (some (5, [.inr "cut", .inr z]))) := ⟨VF, by rw [g3]; exact h.r, by rw [g3]; exact ln, by rw [g3]; exact h.c, by rw [g4]; exact h.f, by
    show ((aJ D (5, [.inr "cut", .inr z])).ch.dropLast).length ≤ _
    show ((D.ch ++ [_]).dropLast).length ≤ _
    rw [List.dropLast_concat]
    omega⟩
  obtain ⟨w, p, s⟩ := ki ib (by omega)
  have ro := OI VF (by rw [g3]; omega)
  rw [g3, g4] at w p s
  rw [g3] at ro
  have sr : aO [.lst (D.es.map aY), .lst (D.es.map aY)] = some (.bl true) := AG (E6 (fun q hq => by have := (h.r q hq).l; omega) (by omega))
  unfold Az
  simp! [rn, bz]
  rw [IQ h (by omega)]
  simp!
  rw [IQ h (by omega)]
  simp! [iz]
  have E1 : kG [a0, a1, .sh (.lst (zs.map .str)), .od (.dia D), .ow (D.es.map aY), .sh (.int D.fo), a6, a7, a8, .sh (.int 1)] 3 (some [.int 5, .tup [.str "cut", .str z]]) = _ := E1
  rw [E1]
  simp!
  rw [E2]
  simp! [Ux, w, p, s, ro, sr]
theorem MN (ns : List Int) : IZ [.scr ns] = some (.bl true) := by
  obtain ⟨d, e1, hl, hd⟩ := N5 ns 470 (by decide)
  have e1 : eS [.scr ns, .int 470] = some (.lst (d.map .int)) := e1
  have Wz : HL (.lst (d.map .int)) (some 2) (some 6) = some (.lst (((d.drop 2).take 4).map .int)) := by
    show some (Dt.lst (cutD (d.map .int) (some ((2 : Nat) : Int)) (some ((6 : Nat) : Int)))) = _
    rw [Cd, ← List.map_drop, ← List.map_take]
  obtain ⟨zs, ez, zl, zo, zn⟩ := M7 (N := 8) (by decide) ((hd.drop 2).take 4) (by rw [List.length_take, List.length_drop]; omega)
  have ez : eg [.lst (((d.drop 2).take 4).map .int), .int 8] = some (.lst (zs.map .str)) := ez
  have VM : zs ≠ [] := fun e => by rw [e] at zl; cases zl
  have s10 : HL (.lst (d.map .int)) (some 10) none = some (.lst ((d.drop 10).map .int)) := Js 10
  obtain ⟨x0, i0, _⟩ := BS hd (i := 0) (by decide) (by omega)
  obtain ⟨x1, i1, _⟩ := BS hd (i := 1) (by decide) (by omega)
  obtain ⟨n, hn, n41⟩ := UU x0 (m := 41) (by decide)
  have hn : x0.fmod 41 = (n : Int) := hn
  obtain ⟨RS, x, rl, rr, er⟩ := HS zo VM (hd.drop 10) (n := n) (by omega) (by rw [List.length_drop]; omega) (by rw [List.length_drop]; omega) (List.length_pos_iff.mp (by rw [List.length_drop]; omega))
  obtain ⟨z, rest, hzs⟩ : ∃ z rest, zs = z :: rest := by cases zs with | nil => exact absurd rfl VM | cons z r => exact ⟨z, r, rfl⟩
  have iz : cY (.lst (zs.map .str)) (.int 0) = some (.str z) := by rw [hzs]; exact jG _ 0
  have V3 : gi 0 0 d0 := ⟨Tz, (fun q hq => nomatch hq), Nat.le_refl _, (fun q hq => nomatch hq), (by decide), Nat.le_refl _⟩
  obtain ⟨D', b6, b7, b8, inn, t⟩ := IU i1 (.sh (.scr ns)) (.sh (.lst (zs.map .str))) .no RS 0 0 d0 .no .no .no rr V3 (by omega) (by omega)
  have rr := FW inn (by omega) (by omega) iz (zo z (by rw [hzs]; exact List.mem_cons_self)) (.sh (.scr ns)) (.sh (.lst (d.map .int))) b6 b7 b8 .no
  unfold IZ
  rw [G7]
  unfold GJ
  simp! [e1, Wz, ez, s10, i0, aL (show (0 : Int) < 41 by decide), hn, er, Ti]
  rw [show ([] : List Dt) = d0.es.map aY from rfl, show (1 : Int) = d0.fo from rfl, t]
  simp!
  rw [rr]
  rfl
end DY
namespace DY
open PySem PySem.Spec PyProof.Rows L2 DL
section
variable {P : Program} {w : World} {K : PySem.W.Frag} {mg : Str → Option Value} {base : Heap}
theorem Pw (T : TL w K mg) : FnOk P w K mg base CX0 8 T.pI.a T.pI.d ["_law_script"] (GW K) := (PY (P := P) (w := w) (base := base) T).imp fun vs H Q E h => by
  obtain ⟨a, ns, rfl, hs, q⟩ := h
  refine ⟨fun _ => False, [.scr ns], .bl true, fun a h => h.elim, rfl, .cons (.scr ?_) .nil, MN ns, fun H' v s r => ?_⟩
  · rw [oq]; exact hs
  · cases r; exact q H'
end
end DY
set_option maxHeartbeats 0
open PySem PySem.W PySem.Calls PyProof.Rows
set_option maxHeartbeats 0 in
theorem PySem.Challenge.cw_dunnage_k45_pages_written_holds : PySem.Challenge.rw_dunnage_k45_pages_written.Holds := by
  exact DY.main_of fun T => DY.Pw T
