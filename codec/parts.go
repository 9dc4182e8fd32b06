package codec

import (
	"escapement/api"
	"escapement/pack"
)

// operation is one whose parts are put or taken.
type operation api.Op

// way is how a part is put and taken.
type way struct {
	put  func(o operation, w *pack.Writer)
	take func(o *operation, r *pack.Reader)
}

func allWays() [partCount]way {
	return [partCount]way{
		partPlan:   {operation.putPlan, (*operation).takePlan},
		partKey:    {operation.putKey, (*operation).takeKey},
		partLane:   {operation.putLane, (*operation).takeLane},
		partWorker: {operation.putWorker, (*operation).takeWorker},
		partToken:  {operation.putToken, (*operation).takeToken},
		partResult: {operation.putResult, (*operation).takeResult},
		partRun:    {operation.putRun, (*operation).takeRun},
		partLuck:   {operation.putLuck, (*operation).takeLuck},
		partTicks:  {operation.putTicks, (*operation).takeTicks},
	}
}

func keys() pack.Form[string] { return pack.Texts(api.MaxKey) }

func workers() pack.Form[int] { return pack.Numbers(0, api.MaxCount) }

// counts are the numbers of tokens and of runs.
func counts() pack.Form[int] { return pack.Numbers(1, api.MaxCount) }

func results() pack.Form[[]byte] { return pack.Blobs(api.MaxResult) }

func times() pack.Form[int] { return pack.Numbers(0, api.MaxTime) }

// putPlan lays the fields alone: whoever puts an operation has looked at its plan.
func (o operation) putPlan(w *pack.Writer) { planFields().Put(w, o.Plan) }

func (o operation) putKey(w *pack.Writer)    { keys().Put(w, o.Key) }
func (o operation) putLane(w *pack.Writer)   { lanes().Put(w, o.Lane) }
func (o operation) putWorker(w *pack.Writer) { workers().Put(w, o.Worker) }
func (o operation) putToken(w *pack.Writer)  { counts().Put(w, o.Token) }
func (o operation) putResult(w *pack.Writer) { results().Put(w, o.Result) }
func (o operation) putRun(w *pack.Writer)    { counts().Put(w, o.Run) }
func (o operation) putLuck(w *pack.Writer)   { pack.Words().Put(w, o.Luck) }
func (o operation) putTicks(w *pack.Writer)  { times().Put(w, o.Ticks) }

func (o *operation) takePlan(r *pack.Reader)   { o.Plan = Plans().Take(r) }
func (o *operation) takeKey(r *pack.Reader)    { o.Key = keys().Take(r) }
func (o *operation) takeLane(r *pack.Reader)   { o.Lane = lanes().Take(r) }
func (o *operation) takeWorker(r *pack.Reader) { o.Worker = workers().Take(r) }
func (o *operation) takeToken(r *pack.Reader)  { o.Token = counts().Take(r) }
func (o *operation) takeResult(r *pack.Reader) { o.Result = results().Take(r) }
func (o *operation) takeRun(r *pack.Reader)    { o.Run = counts().Take(r) }
func (o *operation) takeLuck(r *pack.Reader)   { o.Luck = pack.Words().Take(r) }
func (o *operation) takeTicks(r *pack.Reader)  { o.Ticks = times().Take(r) }
