import Derived.Test.YtnjiinbhbjpfkaaGreatDoorTS
import Derived.Test.YtnjiinbhbjpfkaaGreatDoorTN
set_option maxRecDepth 100000
set_option maxHeartbeats 0
set_option linter.all false
namespace Go.Proofs.YtnjiinbhbjpfkaaGreatDoor
open Go.RowKit Go.Proofs.Tryz
section
def GU(s:ByteArray)(c0 c1 i o:Int)(w:aa)(h:uA c0 c1 i o=false): dD 31 #[.string s,.agg #[aj c0,aj c1,aj i,aj o]] w (.tuple #[.pointer none,.agg #[aj 1,aj 0]]) λw'=>Below w.heap.size w w':=by
 have hX:decide (c0<1)=true\/decide (c0<1)=false/\(decide (200<c0)=true\/decide (200<c0)=false/\(decide (c1<1)=true\/decide (c1<1)=false/\(decide (50<c1)=true\/decide (50<c1)=false/\(decide (i<1)=true\/decide (i<1)=false/\(decide (50<i)=true\/decide (50<i)=false/\(decide (o<1)=true\/decide (o<1)=false/\decide (16<o)=true)))))):=by
  simp[uA,vm]at h;simp only[decide_eq_true_eq,decide_eq_false_iff_not];omega
 clear h;rcases hX with u|⟨u,Y|⟨Y,H|⟨H,y|⟨y,G|⟨G,W|⟨W,J|⟨J,Z⟩⟩⟩⟩⟩⟩⟩
 all_goals
  delta dD;go_in;go_wp2
  refine dg (v:=.tuple #[.pointer none,.agg #[aj 1,aj 0]]) (by simp[results,results31,go_sem]) rfl ⟨rfl,?_⟩;exact((fQ _ _).alloc (bq _) _).alloc eB _
def GS(s:ByteArray)(c0 c1 u G:Int)(w:aa)(Z:s.size<=maxLen)(J:s.size<=140737488355328)(o:uA c0 c1 u G=true)(hn:(M.m9 s).2=false): dD 31 #[.string s,.agg #[aj c0,aj c1,aj u,aj G]] w (.tuple #[.pointer none,.agg #[aj 2,aj ((M.m9 s).1:Int)]]) λw'=>Below w.heap.size w w':=by
 have HS:Hid (s.size<=maxLen):=Z;have HN:Hid ((M.m9 s).2=false):=hn;simp[uA,vm]at o;have b0:decide (c0<1)=false:=fH
 have b1:decide (200<c0)=false:=fH
 have b2:decide (c1<1)=false:=fH
 have b3:decide (50<c1)=false:=fH
 have b4:decide (u<1)=false:=fH
 have b5:decide (50<u)=false:=fH
 have b6:decide (G<1)=false:=fH
 have b7:decide (16<G)=false:=fH
 delta dD;go_in;go_wp2_with fail
 refine(wX s _ HS.out J).mono ?_;rintro e w1 ⟨hP,y⟩;obtain⟨W,Y⟩:=ta y;have H:Hid (Below w.heap.size w w1):=(((fQ _ _).alloc (bq _) _).alloc eB _).trans (y.mono fH);have d0:w1.cell? (ay (w.heap.size+1) 0)=some (aj 0):=by rw[W _ _ eB];simp[go_sem]
 have d1:w1.cell? (ay (w.heap.size+1) 1)=some (aj 0):=by rw[W _ _ eB];simp[go_sem]
 rcases hP with⟨_,rfl⟩|⟨i,_⟩
 .generalize hP:(M.m9 s).1=P at *;have HP:Hid ((M.m9 s).1=P):=hP;go_wp2_with fail
  refine dg (v:=.tuple #[.pointer none,.agg #[aj 2,aj P]]) (by simp[results,results31,go_sem,d0,d1]) rfl ⟨eR,?_⟩;repeat (refine Below.setCell ?_ eB _)
  exact H.out
 grind
def CA(s:ByteArray)(c0 c1 o u:Int)(w:aa)(G:s.size<=maxLen)(y:s.size<=140737488355328)(h:uA c0 c1 o u=false\/(M.m9 s).2=false): dD 31 #[.string s,.agg #[aj c0,aj c1,aj o,aj u]] w (.tuple #[.pointer none,.agg #[aj (told s c0 c1 o u).1,aj (told s c0 c1 o u).2.1]]) λw'=>Below w.heap.size w w':=by
 unfold told;by_cases i:uA c0 c1 o u=true
 .simp_all[bf,au,decide,GS]
 simp_all[au,GU]
def LI(n:Int)(w:aa):dD 32 #[aj n] w (aj n) λw'=>w'=w:=by
 delta dD;go_in;go_wp2
 go_ret;simp_all
def Ex(s:ByteArray)(c0 c1 G H:Int)(w:aa)(hs:s.size<=maxLen)(W:s.size<=140737488355328)(hT:og w)(h:uA c0 c1 G H=false\/(M.m9 s).2=false): dD 14 #[.string s,.agg #[aj c0,aj c1,aj G,aj H]] w (.tuple #[.pointer none,.bool true]) λw'=>Below w.heap.size w w':=by
 have HS:=bj hs;have KT:Hid (og w):=hT;have HH:=bj h;delta dD;go_in;go_wp2_with fail
 refine(vS s c0 c1 G H _ HS.out (KT.out.alloc _) (λ_ _=>False) (λh1 h2=>HH.out.elim (λh=>dp h1 eR) (λh=>dp h2 eR))).mono ?_;rintro e w1 ⟨o,⟨x,y,rfl,_,hx⟩|⟨_,_,_,_,hF,_⟩⟩
 case inr=>grind
 obtain⟨u,Z⟩:=ta o;have hz:=o.size;simp at hz;have J:=bj (((fQ _ _).alloc (bq _) _).trans (o.mono eB));have a0:w1.cell? (ay w.heap.size 0)=some (aj c0):=by rw[u _ _ eB];simp[go_sem]
 have a1:w1.cell? (ay w.heap.size 1)=some (aj c1):=by rw[u _ _ eB];simp[go_sem]
 have a2:w1.cell? (ay w.heap.size 2)=some (aj G):=by rw[u _ _ eB];simp[go_sem]
 have a3:w1.cell? (ay w.heap.size 3)=some (aj H):=by rw[u _ _ eB];simp[go_sem]
 have HX:Hid (told s c0 c1 G H=(x,y,false)):=hx;have l0:w.heap.size<w1.heap.size:=ag
 go_wp2_with fail
 refine(CA s c0 c1 G H _ HS.out W HH.out).mono ?_;rw[HX.out];rintro e w2 ⟨rfl,i⟩;obtain⟨u,Z⟩:=ta i;have a4:=i.size;simp at a4;have Y:Hid (Below w.heap.size w w2):=(J.out.alloc ag _).trans (i.mono fH);have f0:w2.cell? (ay w1.heap.size 0)=some (aj x):=by rw[u _ _ eB];simp[go_sem]
 have f1:w2.cell? (ay w1.heap.size 1)=some (aj y):=by rw[u _ _ eB];simp[go_sem]
 have l1:w1.heap.size<w2.heap.size:=ag
 go_wp2_with fail
 go_quiet ((go_at_call 32;exact Calls.quiet_of_same (LI _ _)))
 go_wp2_with fail
 go_ret2
 refine⟨rfl,?_⟩;repeat (first|exact Y.out|refine Below.alloc ?_ ag _|refine below_drewN ?_ _)
